package checker

import (
	"slices"

	"fulling/api"
	"fulling/parser"
)

// maxTrap is the largest number that the grammar allows in a trap statement.
const maxTrap = 1_000_000

// isSyntaxTree returns whether p consists of parts that parser.Parse produces. It does not look at what the names mean.
func isSyntaxTree(p api.Program) bool {
	return areNames(arrayNames(p)) && areNames(functionNames(p)) && !slices.ContainsFunc(p.Funcs, func(f api.Func) bool { return !isFunction(f) })
}

func isFunction(f api.Func) bool {
	if !areNames(f.Params) || !areNames(f.Locals) {
		return false
	}
	for s := range statements(f.Body) {
		if !isStatement(s) {
			return false
		}
	}
	return isExpression(f.Value)
}

func areNames(texts []string) bool {
	return !slices.ContainsFunc(texts, func(text string) bool { return !isName(text) })
}

// isName asks the parser, so that the layers below alone know what a name is and which words are reserved. In an accepted text, a name follows the word "array". It is equal to the given text only if that consists of one name, with nothing around it.
func isName(text string) bool {
	program, err := parser.Parse("array " + text + " 1;")
	return err.Why == api.OK && program.Arrays[0].Name == text
}

// fields tells which fields a Kind of statements uses.
type fields struct {
	name, to, n, at, value, args, then, otherwise bool
}

// statementFields has one row for each Kind, and a row for 0, which is not a Kind and not looked up.
var statementFields = [...]fields{
	api.StmtAssign: {name: true, value: true},
	api.StmtStore:  {name: true, at: true, value: true},
	api.StmtIf:     {value: true, then: true, otherwise: true},
	api.StmtWhile:  {value: true, then: true},
	api.StmtOut:    {value: true},
	api.StmtCall:   {name: true, to: true, args: true},
	api.StmtTrap:   {n: true},
}

// isStatement does not look at the statements that s contains.
func isStatement(s api.Stmt) bool {
	if s.Kind < api.StmtAssign || s.Kind > api.StmtTrap {
		return false
	}
	uses := statementFields[s.Kind]
	return fitsName(uses.name, s.Name) && fitsName(uses.to, s.To) && fitsTrap(uses.n, s.N) &&
		fitsExpression(uses.at, s.At) && fitsExpression(uses.value, s.Value) && fitsExpressions(uses.args, s.Args) &&
		(uses.then || len(s.Then) == 0) && (uses.otherwise || len(s.Else) == 0)
}

// fitsName and the like return whether a field is valid if it is used, and otherwise whether it is zero.
func fitsName(used bool, text string) bool {
	if used {
		return isName(text)
	}
	return text == ""
}

func fitsTrap(used bool, n int) bool {
	if used {
		return n >= 0 && n <= maxTrap
	}
	return n == 0
}

func fitsExpression(used bool, e api.Expr) bool {
	if used {
		return isExpression(e)
	}
	return e.Kind == 0 && e.N == 0 && e.Name == "" && e.Op == 0 && len(e.Kids) == 0
}

func fitsExpressions(used bool, list []api.Expr) bool {
	if used {
		return areExpressions(list)
	}
	return len(list) == 0
}

func isExpression(e api.Expr) bool {
	return isNode(e) && areExpressions(e.Kids)
}

func areExpressions(list []api.Expr) bool {
	return !slices.ContainsFunc(list, func(e api.Expr) bool { return !isExpression(e) })
}

// isNode does not look at the nodes in Kids.
func isNode(e api.Expr) bool {
	switch e.Kind {
	case api.ExprNum:
		return e.Name == "" && e.Op == 0 && len(e.Kids) == 0
	case api.ExprVar:
		return e.N == 0 && isName(e.Name) && e.Op == 0 && len(e.Kids) == 0
	case api.ExprIndex:
		return e.N == 0 && isName(e.Name) && e.Op == 0 && len(e.Kids) == 1
	case api.ExprOp:
		return e.N == 0 && e.Name == "" && len(e.Kids) == operands(e.Op)
	case api.ExprCond:
		return e.N == 0 && e.Name == "" && e.Op == 0 && len(e.Kids) == 3
	}
	return false
}

// operands returns how many operands an operation of the source language has. For other operations, it returns a number that no list of operands has.
func operands(op int) int {
	switch {
	case op >= api.OpAdd && op <= api.OpLe:
		return 2
	case op == api.OpNeg || op == api.OpNot:
		return 1
	}
	return -1
}
