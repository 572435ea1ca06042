package testtrees

import "fulling/api"

// Inventor makes up small valid programs: arrays x and y, a function f of two parameters and a function g of one, all with variables a and b.
type Inventor struct{ Numbers }

// Program returns the next program.
func (v *Inventor) Program() api.Program {
	return api.Program{
		Arrays: []api.Array{{Name: "x", Len: 1 + v.Below(api.MaxLen)}, {Name: "y", Len: 2}},
		Funcs: []api.Func{
			{Name: "f", Params: []string{"a", "b"}, Body: v.stmts(2), Value: v.Expr(3)},
			{Name: "g", Params: []string{"a"}, Locals: []string{"b", "c"}, Body: v.stmts(1), Value: v.Expr(2)},
		},
	}
}

// Expr returns an expression of at most the given depth.
func (v *Inventor) Expr(depth int) api.Expr {
	if depth == 0 || v.Below(4) == 0 {
		if v.Below(2) == 0 {
			return Num(OneOf[int64](&v.Numbers, 0, 1, 5, -5, 1<<63-1, -1<<63))
		}
		return Var(v.variable())
	}
	switch v.Below(6) {
	case 0:
		return Element(v.array(), v.Expr(depth-1))
	case 1:
		return Op(OneOf(&v.Numbers, api.OpNeg, api.OpNot), v.Expr(depth-1))
	case 2:
		return Cond(v.Expr(depth-1), v.Expr(depth-1), v.Expr(depth-1))
	}
	return Op(api.OpAdd+v.Below(api.OpLe-api.OpAdd+1), v.Expr(depth-1), v.Expr(depth-1))
}

// Stmt returns a statement that contains others to at most the given depth.
func (v *Inventor) Stmt(depth int) api.Stmt {
	kinds := 7
	if depth == 0 {
		kinds = 5
	}
	switch v.Below(kinds) {
	case 0:
		return Assign(v.variable(), v.Expr(2))
	case 1:
		return Store(v.array(), v.Expr(2), v.Expr(2))
	case 2:
		return Out(v.Expr(2))
	case 3:
		return v.call()
	case 4:
		return Trap(OneOf(&v.Numbers, 0, 3, 1_000_000))
	case 5:
		return If(v.Expr(2), v.stmts(depth-1), v.stmts(depth-1))
	}
	return While(v.Expr(2), v.stmts(depth-1)...)
}

func (v *Inventor) stmts(depth int) []api.Stmt {
	var result []api.Stmt
	for range v.Below(4) {
		result = append(result, v.Stmt(depth))
	}
	return result
}

func (v *Inventor) call() api.Stmt {
	if v.Below(2) == 0 {
		return Call(v.variable(), "f", v.Expr(1), v.Expr(1))
	}
	return Call(v.variable(), "g", v.Expr(1))
}

func (v *Inventor) variable() string { return OneOf(&v.Numbers, "a", "b") }

func (v *Inventor) array() string { return OneOf(&v.Numbers, "x", "y") }
