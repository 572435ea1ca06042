package printer

import (
	"fulling/api"
	"fulling/word"
)

// symbols holds the operator of each operation that a program may contain.
var symbols = [...]string{
	api.OpAdd: "+", api.OpSub: "-", api.OpMul: "*", api.OpDiv: "/", api.OpRem: "%",
	api.OpAnd: "&", api.OpOr: "|", api.OpXor: "^",
	api.OpShl: "<<", api.OpShr: ">>>", api.OpSar: ">>",
	api.OpEq: "==", api.OpNe: "!=", api.OpLt: "<", api.OpLe: "<=",
	api.OpNeg: "-", api.OpNot: "~",
}

func (w *writer) expression(e api.Expr) {
	switch e.Kind {
	case api.ExprNum:
		w.write(word.Text(e.N))
	case api.ExprVar:
		w.write(e.Name)
	case api.ExprIndex:
		w.element(e.Name, e.Kids[0])
	case api.ExprOp:
		w.operation(e)
	case api.ExprCond:
		w.operand(e.Kids[0])
		w.write(" ? ")
		w.operand(e.Kids[1])
		w.write(" : ")
		w.operand(e.Kids[2])
	}
}

// element writes an array element, as a value or as the target of a store. The brackets are enough to hold any index together.
func (w *writer) element(array string, index api.Expr) {
	w.write(array, "[")
	w.expression(index)
	w.write("]")
}

func (w *writer) operation(e api.Expr) {
	switch {
	case len(e.Kids) == 2:
		w.operand(e.Kids[0])
		w.write(" ", symbols[e.Op], " ")
		w.operand(e.Kids[1])
	case e.Op == api.OpNeg && e.Kids[0].Kind == api.ExprNum:
		// Without parentheses, the parser would take the operator for the sign of the number.
		w.write(symbols[e.Op])
		w.parenthesized(e.Kids[0])
	default:
		w.write(symbols[e.Op])
		w.operand(e.Kids[0])
	}
}

// operand parenthesizes regardless of precedence, so that no reader has to know it.
func (w *writer) operand(e api.Expr) {
	if e.Kind == api.ExprOp || e.Kind == api.ExprCond {
		w.parenthesized(e)
	} else {
		w.expression(e)
	}
}

func (w *writer) parenthesized(e api.Expr) {
	w.write("(")
	w.expression(e)
	w.write(")")
}
