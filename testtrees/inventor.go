package testtrees

import (
	"slices"

	"fulling/api"
)

// Inventor makes up valid programs.
type Inventor struct {
	Numbers
	scope
	room
	tame bool
}

// scope lists what the statements and expressions of a function may use.
type scope struct {
	arrays    []api.Array
	variables []string
	functions []api.Func // without bodies
}

// room is how many statements and loops still fit into a function.
type room struct{ statements, loops int }

// Program returns the next small program: arrays x and y, a function f of two parameters and a function g of one, all with variables a and b.
func (v *Inventor) Program() api.Program {
	p := api.Program{
		Arrays: []api.Array{{Name: "x", Len: 1 + v.Below(api.MaxLen)}, {Name: "y", Len: 2}},
		Funcs: []api.Func{
			{Name: "f", Params: []string{"a", "b"}},
			{Name: "g", Params: []string{"a"}, Locals: []string{"b", "c"}},
		},
	}
	v.scope = scope{p.Arrays, []string{"a", "b"}, slices.Clone(p.Funcs)}
	v.fill(&p.Funcs[0], 2, 3)
	v.fill(&p.Funcs[1], 1, 2)
	return p
}

// VariedProgram returns the next program with any declarations: up to as many as the limits allow, or none.
func (v *Inventor) VariedProgram() api.Program {
	var p api.Program
	names := v.names()
	for _, name := range names[:v.Below(api.MaxArrays+1)] {
		p.Arrays = append(p.Arrays, api.Array{Name: name, Len: 1 + v.Below(api.MaxLen)})
	}
	others := names[len(p.Arrays):]
	for _, name := range v.names()[:v.Below(api.MaxFuncs+1)] {
		params, locals := v.Below(api.MaxParams+1), v.Below(api.MaxLocals+1)
		p.Funcs = append(p.Funcs, api.Func{Name: name, Params: slices.Clone(others[:params]), Locals: slices.Clone(others[params:][:locals])})
	}
	for i := range p.Funcs {
		f := &p.Funcs[i]
		v.scope = scope{p.Arrays, slices.Concat(f.Params, f.Locals), v.callees(p.Funcs, i)}
		v.fill(f, v.Below(6), v.Below(6))
	}
	return p
}

// names returns as many different names as all arrays and variables of a function need, in any order.
func (v *Inventor) names() []string {
	names := []string{"a", "b", "c", "n", "x", "y", "z", "A", "f", "_", "__", "_1", "x1", "Y_1", "iff", "returns", "Var", "abcdefghijklmnop"}
	for i := range names {
		j := i + v.Below(len(names)-i)
		names[i], names[j] = names[j], names[i]
	}
	return names
}

// fill makes up the body and the value of a function, to the given depths of statements and of expressions.
func (v *Inventor) fill(f *api.Func, stmtDepth, exprDepth int) {
	v.room = room{api.MaxStmts, api.MaxLoops}
	f.Body = v.stmts(stmtDepth)
	f.Value = v.Expr(exprDepth)
}

// Expr returns an expression of at most the given depth.
func (v *Inventor) Expr(depth int) api.Expr {
	if depth == 0 || v.Below(4) == 0 {
		return v.leaf()
	}
	switch v.Below(6) {
	case 0:
		if len(v.arrays) > 0 {
			array := OneOf(&v.Numbers, v.arrays...)
			return Element(array.Name, v.index(array, depth-1))
		}
		return v.leaf()
	case 1:
		return Op(OneOf(&v.Numbers, api.OpNeg, api.OpNot), v.Expr(depth-1))
	case 2:
		return Cond(v.Expr(depth-1), v.Expr(depth-1), v.Expr(depth-1))
	}
	operation := api.OpAdd + v.Below(api.OpLe-api.OpAdd+1)
	return Op(operation, v.Expr(depth-1), v.rightOperand(operation, depth-1))
}

func (v *Inventor) leaf() api.Expr {
	if v.Below(2) == 0 || len(v.variables) == 0 {
		return Num(OneOf[int64](&v.Numbers, 0, 1, 5, -5, 1<<63-1, -1<<63))
	}
	return Var(v.variable())
}

// Stmt returns a statement that contains others to at most the given depth.
func (v *Inventor) Stmt(depth int) api.Stmt {
	kinds := 7
	switch {
	case depth == 0:
		kinds = 5
	case v.loops == 0:
		kinds = 6
	}
	v.statements--
	switch kind := v.Below(kinds); {
	case kind == 0 && len(v.variables) > 0:
		return Assign(v.variable(), v.Expr(2))
	case kind == 1 && len(v.arrays) > 0:
		array := OneOf(&v.Numbers, v.arrays...)
		return Store(array.Name, v.index(array, 2), v.Expr(2))
	case kind == 2 && !v.avoids():
		return Trap(OneOf(&v.Numbers, 0, 3, 1_000_000))
	case kind == 3 && len(v.variables) > 0 && len(v.functions) > 0:
		return v.call()
	case kind == 5:
		return If(v.Expr(2), v.stmts(depth-1), v.stmts(depth-1))
	case kind == 6:
		v.loops--
		return v.loop(depth - 1)
	}
	return Out(v.Expr(2))
}

func (v *Inventor) stmts(depth int) []api.Stmt {
	var result []api.Stmt
	for range v.Below(4) {
		if v.statements > 0 {
			result = append(result, v.Stmt(depth))
		}
	}
	return result
}

func (v *Inventor) call() api.Stmt {
	f := OneOf(&v.Numbers, v.functions...)
	var args []api.Expr
	for range f.Params {
		args = append(args, v.Expr(1))
	}
	return Call(v.variable(), f.Name, args...)
}

func (v *Inventor) variable() string { return OneOf(&v.Numbers, v.variables...) }
