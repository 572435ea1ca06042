package checker

import (
	"slices"

	"fulling/api"
)

func arrayNames(p api.Program) []string {
	var names []string
	for _, a := range p.Arrays {
		names = append(names, a.Name)
	}
	return names
}

func functionNames(p api.Program) []string {
	var names []string
	for _, f := range p.Funcs {
		names = append(names, f.Name)
	}
	return names
}

// hasDuplicates compares arrays and variables together, since a variable would hide the array of the same name. Functions are named in calls only, where nothing else can stand, so they have names of their own.
func hasDuplicates(p api.Program) bool {
	arrays := arrayNames(p)
	return repeats(arrays) || repeats(functionNames(p)) || slices.ContainsFunc(p.Funcs, func(f api.Func) bool {
		return repeats(slices.Concat(arrays, f.Params, f.Locals))
	})
}

func repeats(names []string) bool {
	for i, name := range names {
		if slices.Contains(names[:i], name) {
			return true
		}
	}
	return false
}

// scope holds the names that are defined in a function.
type scope struct {
	variables, arrays, functions []string
}

func hasUndefinedNames(p api.Program) bool {
	arrays, functions := arrayNames(p), functionNames(p)
	return slices.ContainsFunc(p.Funcs, func(f api.Func) bool {
		return !scope{slices.Concat(f.Params, f.Locals), arrays, functions}.definesNamesOf(f)
	})
}

func (s scope) definesNamesOf(f api.Func) bool {
	for statement := range statements(f.Body) {
		if !s.definesTargetOf(statement) {
			return false
		}
	}
	for node := range expressionNodes(f) {
		if !s.definesOperandOf(node) {
			return false
		}
	}
	return true
}

// definesTargetOf looks at the names that a statement itself contains, not at those in its expressions.
func (s scope) definesTargetOf(statement api.Stmt) bool {
	switch statement.Kind {
	case api.StmtAssign:
		return slices.Contains(s.variables, statement.Name)
	case api.StmtStore:
		return slices.Contains(s.arrays, statement.Name)
	case api.StmtCall:
		return slices.Contains(s.variables, statement.Name) && slices.Contains(s.functions, statement.To)
	}
	return true
}

func (s scope) definesOperandOf(node api.Expr) bool {
	switch node.Kind {
	case api.ExprVar:
		return slices.Contains(s.variables, node.Name)
	case api.ExprIndex:
		return slices.Contains(s.arrays, node.Name)
	}
	return true
}

// hasWrongCalls returns whether a call has too few or too many arguments. All called functions are defined.
func hasWrongCalls(p api.Program) bool {
	parameters := make(map[string]int)
	for _, f := range p.Funcs {
		parameters[f.Name] = len(f.Params)
	}
	for _, f := range p.Funcs {
		for s := range statements(f.Body) {
			if s.Kind == api.StmtCall && len(s.Args) != parameters[s.To] {
				return true
			}
		}
	}
	return false
}
