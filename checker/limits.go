package checker

import (
	"slices"

	"fulling/api"
)

// exceedsLimits is the first check that Check makes, so it takes nothing for granted: it ends soon even if a tree is very deep or contains itself.
func exceedsLimits(p api.Program) bool {
	return len(p.Arrays) > api.MaxArrays || len(p.Funcs) > api.MaxFuncs ||
		slices.ContainsFunc(p.Arrays, hasWrongLength) || slices.ContainsFunc(p.Funcs, functionExceedsLimits)
}

func hasWrongLength(a api.Array) bool {
	return a.Len < 1 || a.Len > api.MaxLen
}

// functionExceedsLimits counts the statements before it visits their expressions, since visiting all statements is safe only once they are known to be few.
func functionExceedsLimits(f api.Func) bool {
	if len(f.Params) > api.MaxParams || len(f.Locals) > api.MaxLocals {
		return true
	}
	var count counter
	if count.exceedsLimits(f.Body, 0) {
		return true
	}
	for e := range expressions(f) {
		if isTooDeep(e, 0) {
			return true
		}
	}
	return false
}

// counter counts the statements of a function at all nesting levels.
type counter struct {
	statements, loops int
}

// exceedsLimits adds the statements of a body that is nested in depth statements. It stops at the first limit that is exceeded.
func (c *counter) exceedsLimits(body []api.Stmt, depth int) bool {
	c.statements += len(body)
	if c.statements > api.MaxStmts || len(body) > 0 && depth > api.MaxDeep {
		return true
	}
	for _, s := range body {
		if s.Kind == api.StmtWhile {
			c.loops++
		}
		if c.loops > api.MaxLoops || c.exceedsLimits(s.Then, depth+1) || c.exceedsLimits(s.Else, depth+1) {
			return true
		}
	}
	return false
}

// isTooDeep returns whether e, which is nested in depth nodes, or a node in it is nested in too many.
func isTooDeep(e api.Expr, depth int) bool {
	return depth > api.MaxDeep || slices.ContainsFunc(e.Kids, func(kid api.Expr) bool { return isTooDeep(kid, depth+1) })
}
