package testtrees

import (
	"slices"

	"fulling/api"
)

// EqualExprs, EqualStmts, EqualFuncs and EqualPrograms compare all fields. They make no difference between a nil slice and an empty one, as rule R2 says.
func EqualExprs(a, b api.Expr) bool {
	return a.Kind == b.Kind && a.N == b.N && a.Name == b.Name && a.Op == b.Op && slices.EqualFunc(a.Kids, b.Kids, EqualExprs)
}

func EqualStmts(a, b api.Stmt) bool {
	return a.Kind == b.Kind && a.Name == b.Name && a.To == b.To && a.N == b.N &&
		EqualExprs(a.At, b.At) && EqualExprs(a.Value, b.Value) && slices.EqualFunc(a.Args, b.Args, EqualExprs) &&
		slices.EqualFunc(a.Then, b.Then, EqualStmts) && slices.EqualFunc(a.Else, b.Else, EqualStmts)
}

func EqualFuncs(a, b api.Func) bool {
	return a.Name == b.Name && slices.Equal(a.Params, b.Params) && slices.Equal(a.Locals, b.Locals) &&
		slices.EqualFunc(a.Body, b.Body, EqualStmts) && EqualExprs(a.Value, b.Value)
}

func EqualPrograms(a, b api.Program) bool {
	return slices.Equal(a.Arrays, b.Arrays) && slices.EqualFunc(a.Funcs, b.Funcs, EqualFuncs)
}
