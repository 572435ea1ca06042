package checker

import (
	"iter"

	"fulling/api"
)

// statements goes through the statements of all nesting levels, whatever the Kind of those that contain others.
func statements(body []api.Stmt) iter.Seq[api.Stmt] {
	return func(yield func(api.Stmt) bool) { yieldStatements(body, yield) }
}

// yieldStatements returns whether to go on.
func yieldStatements(body []api.Stmt, yield func(api.Stmt) bool) bool {
	for _, s := range body {
		if !yield(s) || !yieldStatements(s.Then, yield) || !yieldStatements(s.Else, yield) {
			return false
		}
	}
	return true
}

// expressions goes through the expressions of a function. It includes those that the Kinds of their statements do not use.
func expressions(f api.Func) iter.Seq[api.Expr] {
	return func(yield func(api.Expr) bool) {
		for s := range statements(f.Body) {
			if !yield(s.At) || !yield(s.Value) {
				return
			}
			for _, arg := range s.Args {
				if !yield(arg) {
					return
				}
			}
		}
		yield(f.Value)
	}
}

// expressionNodes goes through the nodes of all expressions of a function.
func expressionNodes(f api.Func) iter.Seq[api.Expr] {
	return func(yield func(api.Expr) bool) {
		for e := range expressions(f) {
			if !yieldNodes(e, yield) {
				return
			}
		}
	}
}

// yieldNodes returns whether to go on.
func yieldNodes(e api.Expr, yield func(api.Expr) bool) bool {
	if !yield(e) {
		return false
	}
	for _, kid := range e.Kids {
		if !yieldNodes(kid, yield) {
			return false
		}
	}
	return true
}
