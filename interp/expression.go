package interp

import (
	"fulling/api"
	"fulling/word"
)

func (a activation) evaluate(e api.Expr) (value int64, goesOn bool) {
	switch e.Kind {
	case api.ExprNum:
		return e.N, true
	case api.ExprVar:
		return a.variables[e.Name], true
	case api.ExprIndex:
		return a.element(e)
	case api.ExprCond:
		return a.alternative(e)
	}
	return a.operation(e)
}

// evaluateAll evaluates a list in order.
func (a activation) evaluateAll(list []api.Expr) (values []int64, goesOn bool) {
	for _, e := range list {
		value, ok := a.evaluate(e)
		if !ok {
			return nil, false
		}
		values = append(values, value)
	}
	return values, true
}

func (a activation) element(e api.Expr) (value int64, goesOn bool) {
	index, goesOn := a.evaluate(e.Kids[0])
	switch {
	case !goesOn:
		return 0, false
	case !a.isInBounds(e.Name, index):
		return 0, a.trap(api.TrapIndex)
	}
	return a.arrays[e.Name][index], true
}

// alternative leaves the operand that is not chosen alone, because it might trap.
func (a activation) alternative(e api.Expr) (value int64, goesOn bool) {
	condition, goesOn := a.evaluate(e.Kids[0])
	switch {
	case !goesOn:
		return 0, false
	case condition != 0:
		return a.evaluate(e.Kids[1])
	}
	return a.evaluate(e.Kids[2])
}

func (a activation) operation(e api.Expr) (value int64, goesOn bool) {
	operands, goesOn := a.evaluateAll(e.Kids)
	switch {
	case !goesOn:
		return 0, false
	case len(operands) == 1:
		return word.Unary(e.Op, operands[0]), true
	case (e.Op == api.OpDiv || e.Op == api.OpRem) && operands[1] == 0:
		return 0, a.trap(api.TrapDiv)
	}
	return word.Binary(e.Op, operands[0], operands[1]), true
}
