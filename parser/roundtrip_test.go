package parser_test

import (
	"strings"
	"testing"

	"fulling/api"
	"fulling/testtrees"
)

// These tests make up syntax trees, write each as text in one of the ways that the chapter allows, and expect Parse to return the tree.

// inventor makes up programs. Its choices follow a fixed sequence of numbers.
type inventor struct{ testtrees.Numbers }

func (v *inventor) name() string {
	return []string{"a", "b", "x", "Y_1", "_", "abcdefghijklmnop", "iff", "returns"}[v.Below(8)]
}

func (v *inventor) names(most int) []string {
	var result []string
	for range v.Below(most + 1) {
		result = append(result, v.name())
	}
	return result
}

func (v *inventor) number() int64 {
	return []int64{0, 0, 1, 7, 1000001, 1<<63 - 1, -1, -12, -1<<63 + 1, -1 << 63}[v.Below(10)]
}

// expr returns an expression of at most the given depth.
func (v *inventor) expr(depth int) api.Expr {
	if depth == 0 || v.Below(6) == 0 {
		if v.Below(2) == 0 {
			return testtrees.Num(v.number())
		}
		return testtrees.Var(v.name())
	}
	switch v.Below(8) {
	case 0:
		return testtrees.Element(v.name(), v.expr(depth-1))
	case 1:
		return testtrees.Op(api.OpNeg, v.expr(depth-1))
	case 2:
		return testtrees.Op(api.OpNot, v.expr(depth-1))
	case 3:
		return testtrees.Op(api.OpEq, v.expr(depth-1), testtrees.Num(0))
	case 4:
		return testtrees.Cond(v.expr(depth-1), v.expr(depth-1), v.expr(depth-1))
	}
	symbols := binarySymbols()
	return binary(symbols[v.Below(len(symbols))], v.expr(depth-1), v.expr(depth-1))
}

func (v *inventor) exprs(most int) []api.Expr {
	var result []api.Expr
	for range v.Below(most + 1) {
		result = append(result, v.expr(3))
	}
	return result
}

func (v *inventor) stmts(depth int) []api.Stmt {
	var result []api.Stmt
	for range v.Below(4) {
		result = append(result, v.stmt(depth))
	}
	return result
}

// stmt returns a statement that contains others to at most the given depth.
func (v *inventor) stmt(depth int) api.Stmt {
	kind := v.Below(7)
	if depth == 0 {
		kind = v.Below(5)
	}
	switch kind {
	case 0:
		return api.Stmt{Kind: api.StmtAssign, Name: v.name(), Value: v.expr(4)}
	case 1:
		return api.Stmt{Kind: api.StmtStore, Name: v.name(), At: v.expr(3), Value: v.expr(3)}
	case 2:
		return api.Stmt{Kind: api.StmtOut, Value: v.expr(4)}
	case 3:
		return api.Stmt{Kind: api.StmtCall, Name: v.name(), To: v.name(), Args: v.exprs(3)}
	case 4:
		return api.Stmt{Kind: api.StmtTrap, N: []int{0, 1, 16, 1000000}[v.Below(4)]}
	case 5:
		return api.Stmt{Kind: api.StmtIf, Value: v.expr(3), Then: v.stmts(depth - 1), Else: v.stmts(depth - 1)}
	}
	return api.Stmt{Kind: api.StmtWhile, Value: v.expr(3), Then: v.stmts(depth - 1)}
}

func (v *inventor) program() api.Program {
	var result api.Program
	for range v.Below(3) {
		result.Arrays = append(result.Arrays, api.Array{Name: v.name(), Len: v.Below(1000001)})
	}
	for range v.Below(3) {
		result.Funcs = append(result.Funcs, api.Func{Name: v.name(), Params: v.names(3), Locals: v.names(3), Body: v.stmts(3), Value: v.expr(5)})
	}
	return result
}

// writer writes programs as tokens. Where the language offers a choice, it chooses by a fixed sequence of numbers.
type writer struct {
	testtrees.Numbers
	tokens []string
}

func (w *writer) write(tokens ...string) { w.tokens = append(w.tokens, tokens...) }

// Levels of expressions beside those of the binary operators, which are 1 to 8.
const (
	condLevel    = 0
	prefixLevel  = 9
	operandLevel = 10
)

// expr writes e where an expression of at least the given level is expected.
func (w *writer) expr(e api.Expr, level int) {
	symbol, kids := w.form(e)
	if own := ownLevel(e, symbol); own < level || w.Below(8) == 0 {
		w.write("(")
		defer w.write(")")
	}
	switch {
	case e.Kind == api.ExprNum:
		w.number(e.N)
	case e.Kind == api.ExprVar:
		w.write(e.Name)
	case e.Kind == api.ExprIndex:
		w.write(e.Name, "[")
		w.expr(e.Kids[0], condLevel)
		w.write("]")
	case e.Kind == api.ExprCond:
		w.expr(e.Kids[0], condLevel+1)
		w.write("?")
		w.expr(e.Kids[1], condLevel)
		w.write(":")
		w.expr(e.Kids[2], condLevel)
	case len(kids) == 1:
		w.write(symbol)
		if symbol == "-" && kids[0].Kind == api.ExprNum && kids[0].N >= 0 {
			// Without parentheses, the number would take the sign.
			w.write("(")
			defer w.write(")")
		}
		w.expr(kids[0], prefixLevel)
	default:
		w.expr(kids[0], levelOf(symbol))
		w.write(symbol)
		w.expr(kids[1], levelOf(symbol)+1)
	}
}

// form returns how to write an operation: its symbol, and its operands in the order of the text.
func (w *writer) form(e api.Expr) (string, []api.Expr) {
	switch {
	case e.Kind != api.ExprOp:
		return "", nil
	case e.Op == api.OpNeg:
		return "-", e.Kids
	case e.Op == api.OpNot:
		return "~", e.Kids
	case e.Op == api.OpEq && testtrees.EqualExprs(e.Kids[1], testtrees.Num(0)) && w.Below(2) == 0:
		return "!", e.Kids[:1]
	case e.Op == api.OpLt && w.Below(2) == 0:
		return ">", []api.Expr{e.Kids[1], e.Kids[0]}
	case e.Op == api.OpLe && w.Below(2) == 0:
		return ">=", []api.Expr{e.Kids[1], e.Kids[0]}
	}
	for _, symbol := range binarySymbols() {
		if symbol[0] != '>' || symbol == ">>" || symbol == ">>>" {
			if binary(symbol, testtrees.Num(1), testtrees.Num(2)).Op == e.Op {
				return symbol, e.Kids
			}
		}
	}
	return "", nil
}

func ownLevel(e api.Expr, symbol string) int {
	switch {
	case e.Kind == api.ExprCond:
		return condLevel
	case e.Kind == api.ExprNum && e.N < 0, e.Kind == api.ExprOp && len(e.Kids) == 1, symbol == "!":
		return prefixLevel
	case e.Kind == api.ExprOp:
		return levelOf(symbol)
	}
	return operandLevel
}

func (w *writer) number(n int64) {
	switch {
	case n == -1<<63:
		w.write("-", "9223372036854775808")
	case n < 0:
		w.write("-", decimal(-n))
	default:
		w.write(decimal(n))
	}
}

func decimal(n int64) string {
	digits := string(rune('0' + n%10))
	if n < 10 {
		return digits
	}
	return decimal(n/10) + digits
}

// separated writes count parts with commas between them.
func (w *writer) separated(count int, part func(i int)) {
	for i := range count {
		if i > 0 {
			w.write(",")
		}
		part(i)
	}
}

func (w *writer) block(stmts []api.Stmt) {
	w.write("{")
	for _, s := range stmts {
		w.stmt(s)
	}
	w.write("}")
}

func (w *writer) stmt(s api.Stmt) {
	switch s.Kind {
	case api.StmtAssign:
		w.write(s.Name, "=")
	case api.StmtStore:
		w.write(s.Name, "[")
		w.expr(s.At, condLevel)
		w.write("]", "=")
	case api.StmtOut:
		w.write("out")
	case api.StmtTrap:
		w.write("trap", decimal(int64(s.N)), ";")
		return
	case api.StmtCall:
		w.write(s.Name, "=", s.To, "(")
		w.separated(len(s.Args), func(i int) { w.expr(s.Args[i], condLevel) })
		w.write(")", ";")
		return
	default:
		w.compound(s)
		return
	}
	w.expr(s.Value, condLevel)
	w.write(";")
}

func (w *writer) compound(s api.Stmt) {
	w.write(map[int]string{api.StmtIf: "if", api.StmtWhile: "while"}[s.Kind], "(")
	w.expr(s.Value, condLevel)
	w.write(")")
	w.block(s.Then)
	if len(s.Else) > 0 || s.Kind == api.StmtIf && w.Below(3) == 0 {
		w.write("else")
		w.block(s.Else)
	}
}

func (w *writer) array(a api.Array) { w.write("array", a.Name, decimal(int64(a.Len)), ";") }

func (w *writer) function(f api.Func) {
	w.write("func", f.Name, "(")
	w.separated(len(f.Params), func(i int) { w.write(f.Params[i]) })
	w.write(")")
	if len(f.Locals) > 0 {
		w.write("var")
		w.separated(len(f.Locals), func(i int) { w.write(f.Locals[i]) })
	}
	w.write("{")
	for _, s := range f.Body {
		w.stmt(s)
	}
	w.write("return")
	w.expr(f.Value, condLevel)
	w.write(";", "}")
}

// program mixes arrays and functions.
func (w *writer) program(p api.Program) {
	for len(p.Arrays)+len(p.Funcs) > 0 {
		if len(p.Funcs) == 0 || len(p.Arrays) > 0 && w.Below(2) == 0 {
			w.array(p.Arrays[0])
			p.Arrays = p.Arrays[1:]
		} else {
			w.function(p.Funcs[0])
			p.Funcs = p.Funcs[1:]
		}
	}
}

// text joins the tokens with any separators, and with none where the tokens stay apart without.
func (w *writer) text() string {
	var result strings.Builder
	separators := []string{"", "", " ", "\n", "\t", "\r\n", "   ", "# ( x\n", " #\n # 1 } \n"}
	last := byte(' ')
	for _, token := range w.tokens {
		separator := separators[w.Below(len(separators))]
		if separator == "" && (isWordByte(last) && isWordByte(token[0]) || strings.IndexByte("<>=!", last) >= 0 && strings.IndexByte("<>=", token[0]) >= 0) {
			separator = " "
		}
		result.WriteString(separator + token)
		last = token[len(token)-1]
	}
	return result.String()
}

func TestWrittenExpressions(t *testing.T) {
	v, w := &inventor{1}, &writer{Numbers: 2}
	for i := range 20000 {
		want := v.expr(1 + i%6)
		w.tokens = nil
		w.expr(want, condLevel)
		checkExpression(t, w.text()+"\n", want) // the line feed ends a comment
	}
}

func TestWrittenPrograms(t *testing.T) {
	v, w := &inventor{3}, &writer{Numbers: 4}
	checked := 0
	for range 3000 {
		want := v.program()
		w.tokens = nil
		w.program(want)
		if text := w.text(); len(text) <= api.MaxText {
			checkProgram(t, text, want)
			checked++
		}
	}
	if checked < 2500 {
		t.Errorf("only %d programs are short enough", checked)
	}
}

// TestRandomTokens compares the parser with the recognizer on sequences of tokens that are mostly no programs.
func TestRandomTokens(t *testing.T) {
	v, w, tokens := &inventor{5}, &writer{Numbers: 6}, allTokens()
	for range 300 {
		w.tokens = nil
		w.program(v.program())
		if len(w.tokens) == 0 || len(w.tokens) > 300 {
			continue
		}
		for range 5 {
			w.tokens[v.Below(len(w.tokens))] = tokens[v.Below(len(tokens))]
			newRecognizer().compare(t, w.tokens, 0)
		}
	}
}
