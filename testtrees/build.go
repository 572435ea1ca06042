// Package testtrees builds, compares and makes up syntax trees. It serves the tests of other packages only.
package testtrees

import "fulling/api"

// Num, Var, Element, Op and Cond build expressions.
func Num(n int64) api.Expr { return api.Expr{Kind: api.ExprNum, N: n} }

func Var(name string) api.Expr { return api.Expr{Kind: api.ExprVar, Name: name} }

func Element(array string, index api.Expr) api.Expr {
	return api.Expr{Kind: api.ExprIndex, Name: array, Kids: []api.Expr{index}}
}

func Op(operation int, kids ...api.Expr) api.Expr {
	return api.Expr{Kind: api.ExprOp, Op: operation, Kids: kids}
}

func Cond(condition, then, otherwise api.Expr) api.Expr {
	return api.Expr{Kind: api.ExprCond, Kids: []api.Expr{condition, then, otherwise}}
}

// Assign, Store, If, While, Out, Call and Trap build statements.
func Assign(name string, value api.Expr) api.Stmt {
	return api.Stmt{Kind: api.StmtAssign, Name: name, Value: value}
}

func Store(array string, at, value api.Expr) api.Stmt {
	return api.Stmt{Kind: api.StmtStore, Name: array, At: at, Value: value}
}

func If(condition api.Expr, then, otherwise []api.Stmt) api.Stmt {
	return api.Stmt{Kind: api.StmtIf, Value: condition, Then: then, Else: otherwise}
}

func While(condition api.Expr, body ...api.Stmt) api.Stmt {
	return api.Stmt{Kind: api.StmtWhile, Value: condition, Then: body}
}

func Out(value api.Expr) api.Stmt { return api.Stmt{Kind: api.StmtOut, Value: value} }

func Call(name, to string, args ...api.Expr) api.Stmt {
	return api.Stmt{Kind: api.StmtCall, Name: name, To: to, Args: args}
}

func Trap(n int) api.Stmt { return api.Stmt{Kind: api.StmtTrap, N: n} }

// Nested returns what is inside of n layers.
func Nested[T any](n int, inside T, around func(T) T) T {
	for range n {
		inside = around(inside)
	}
	return inside
}
