package testtrees

import (
	"math/bits"

	"fulling/api"
)

// TameProgram returns the next varied program that seldom traps, seldom calls itself, and whose loops mostly end. So most of it is executed when it runs.
func (v *Inventor) TameProgram() api.Program {
	v.tame = true
	p := v.VariedProgram()
	v.tame = false
	return p
}

// avoids returns whether to do without something that often ends a run. A tame program has some of it all the same.
func (v *Inventor) avoids() bool { return v.tame && v.Below(40) > 0 }

// callees returns the functions that the function of the given number calls.
func (v *Inventor) callees(functions []api.Func, number int) []api.Func {
	if v.avoids() {
		return functions[number+1:]
	}
	return functions
}

// index returns an expression that is the index of a cell. Taming adds a node to the given depth, here and below.
func (v *Inventor) index(a api.Array, depth int) api.Expr {
	e := v.Expr(depth)
	if v.avoids() {
		cells := 1 << (bits.Len(uint(a.Len)) - 1)
		return Op(api.OpAnd, e, Num(int64(cells-1)))
	}
	return e
}

// rightOperand returns a second operand, which the divisions need to be different from 0.
func (v *Inventor) rightOperand(operation, depth int) api.Expr {
	e := v.Expr(depth)
	if (operation == api.OpDiv || operation == api.OpRem) && v.avoids() {
		return Op(api.OpOr, e, Num(1))
	}
	return e
}

// loop returns a while statement whose body contains others to the given depth. If it is tame, it counts one of the variables down.
func (v *Inventor) loop(depth int) api.Stmt {
	if len(v.variables) == 0 || v.statements == 0 || !v.avoids() {
		return While(v.Expr(2), v.stmts(depth)...)
	}
	v.statements--
	counter := v.variable()
	body := append(v.stmts(depth), Assign(counter, Op(api.OpSub, Var(counter), Num(1))))
	return While(Op(api.OpAnd, Var(counter), Num(3)), body...)
}
