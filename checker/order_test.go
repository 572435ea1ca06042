package checker_test

import (
	"fmt"
	"slices"
	"testing"

	"fulling/api"
	"fulling/testtrees"
)

// Promise 4.1: if several errors apply, the first one of the list is returned, wherever in the program each of them stands.

// ordinary returns a valid program with room for flaws: every function has a parameter a and a local variable v, and statements on several levels.
func ordinary() api.Program {
	var p api.Program
	p.Arrays = []api.Array{{Name: "x", Len: 2}, {Name: "y", Len: 3}}
	for _, name := range []string{"f", "g", "h"} {
		f := emptyFunction(name, testtrees.Var("v"))
		f.Body = []api.Stmt{
			testtrees.Out(testtrees.Var("a")),
			branch([]api.Stmt{testtrees.Trap(1)}, []api.Stmt{loop(assign(testtrees.Element("x", testtrees.Num(1)))), testtrees.Trap(2)}),
			store(testtrees.Num(0), testtrees.Num(1)),
		}
		p.Funcs = append(p.Funcs, f)
	}
	return p
}

func emptyFunction(name string, value api.Expr) api.Func {
	return api.Func{Name: name, Params: []string{"a"}, Locals: []string{"v"}, Value: value}
}

// places is the number of places where each flaw can stand. They are numbered from the start of the text to its end.
const places = 5

// choose returns the element that a place stands for.
func choose[T any](list []T, place int) T { return list[place*(len(list)-1)/(places-1)] }

// insert puts items into a list, at its start or at its end.
func insert[T any](list *[]T, place int, items ...T) {
	if place%2 == 0 {
		*list = slices.Concat(items, *list)
	} else {
		*list = slices.Concat(*list, items)
	}
}

// bodies returns all lists of statements in a program, in the order of the text.
func bodies(p *api.Program) []*[]api.Stmt {
	var result []*[]api.Stmt
	var add func(body *[]api.Stmt)
	add = func(body *[]api.Stmt) {
		result = append(result, body)
		for i := range *body {
			s := &(*body)[i]
			if s.Kind == api.StmtIf || s.Kind == api.StmtWhile {
				add(&s.Then)
			}
			if s.Kind == api.StmtIf {
				add(&s.Else)
			}
		}
	}
	for i := range p.Funcs {
		add(&p.Funcs[i].Body)
	}
	return result
}

// cloneStmts makes all lists of statements anew, so that a later flaw can be inserted into them.
func cloneStmts(list []api.Stmt) []api.Stmt {
	list = slices.Clone(list)
	for i := range list {
		list[i].Then, list[i].Else = cloneStmts(list[i].Then), cloneStmts(list[i].Else)
	}
	return list
}

func functionsOf(p *api.Program) []*api.Func {
	var result []*api.Func
	for i := range p.Funcs {
		result = append(result, &p.Funcs[i])
	}
	return result
}

// flaw adds an error to a program. It has no other effect than that one error, and none on other flaws.
type flaw struct {
	why  api.Errno
	what string
	add  func(p *api.Program, place int)
}

func arrayFlaw(why api.Errno, what string, list ...api.Array) flaw {
	return flaw{why, what, func(p *api.Program, place int) { insert(&p.Arrays, place, list...) }}
}

func functionFlaw(why api.Errno, what string, list ...api.Func) flaw {
	return flaw{why, what, func(p *api.Program, place int) { insert(&p.Funcs, place, list...) }}
}

func paramFlaw(why api.Errno, what string, names ...string) flaw {
	return flaw{why, what, func(p *api.Program, place int) { insert(&choose(functionsOf(p), place).Params, place, names...) }}
}

func localFlaw(why api.Errno, what string, names ...string) flaw {
	return flaw{why, what, func(p *api.Program, place int) { insert(&choose(functionsOf(p), place).Locals, place, names...) }}
}

func stmtFlaw(why api.Errno, what string, list ...api.Stmt) flaw {
	return flaw{why, what, func(p *api.Program, place int) { insert(choose(bodies(p), place), place, cloneStmts(list)...) }}
}

func valueFlaw(why api.Errno, what string, e api.Expr) flaw {
	return flaw{why, what, func(p *api.Program, place int) {
		f := choose(functionsOf(p), place)
		f.Value = testtrees.Op(api.OpAdd, f.Value, e)
		if place%2 == 0 {
			slices.Reverse(f.Value.Kids)
		}
	}}
}

// flaws returns flaws of every reason that the chapter lists, in the order of their errors.
func flaws() []flaw {
	deep := testtrees.Nested(api.MaxDeep+1, testtrees.Num(1), negated)
	one := testtrees.Num(1)
	callOf := func(to string, args ...api.Expr) api.Stmt {
		return testtrees.Call("v", to, args...)
	}
	return []flaw{
		arrayFlaw(api.ErrLimit, "array of length 0", api.Array{Name: "zero"}),
		arrayFlaw(api.ErrLimit, "array of length 17", api.Array{Name: "long", Len: api.MaxLen + 1}),
		arrayFlaw(api.ErrLimit, "too many arrays", arrays(api.MaxArrays-1)...),
		functionFlaw(api.ErrLimit, "too many functions", functions(api.MaxFuncs-2)...),
		paramFlaw(api.ErrLimit, "too many parameters", namesFrom("p", api.MaxParams+1)...),
		localFlaw(api.ErrLimit, "too many local variables", namesFrom("l", api.MaxLocals+1)...),
		stmtFlaw(api.ErrLimit, "too many statements", traps(api.MaxStmts+1)...),
		stmtFlaw(api.ErrLimit, "too many loops", loops(api.MaxLoops+1)...),
		stmtFlaw(api.ErrLimit, "too deep statement", testtrees.Nested(api.MaxDeep+1, testtrees.Trap(1), func(s api.Stmt) api.Stmt { return branch([]api.Stmt{s}, nil) })),
		stmtFlaw(api.ErrLimit, "too deep value", testtrees.Out(deep)),
		stmtFlaw(api.ErrLimit, "too deep argument", callOf("f", deep)),
		valueFlaw(api.ErrLimit, "too deep result", deep),

		arrayFlaw(api.ErrSyntax, "reserved array", api.Array{Name: "func", Len: 1}),
		functionFlaw(api.ErrSyntax, "reserved function", emptyFunction("array", one)),
		functionFlaw(api.ErrSyntax, "function without result", emptyFunction("empty", api.Expr{})),
		paramFlaw(api.ErrSyntax, "empty parameter", ""),
		localFlaw(api.ErrSyntax, "two words as a local variable", "a b"),
		stmtFlaw(api.ErrSyntax, "unknown statement", api.Stmt{Kind: 9}),
		stmtFlaw(api.ErrSyntax, "negative trap", testtrees.Trap(-1)),
		stmtFlaw(api.ErrSyntax, "unused field", api.Stmt{Kind: api.StmtTrap, At: one}),
		stmtFlaw(api.ErrSyntax, "unused statements", api.Stmt{Kind: api.StmtOut, Value: one, Else: traps(1)}),
		stmtFlaw(api.ErrSyntax, "assign to a number", testtrees.Assign("1", one)),
		valueFlaw(api.ErrSyntax, "unknown expression", api.Expr{Kind: -2}),
		valueFlaw(api.ErrSyntax, "missing operand", testtrees.Op(api.OpMul, one)),
		valueFlaw(api.ErrSyntax, "OpLtu", testtrees.Op(api.OpLtu, one, one)),

		arrayFlaw(api.ErrDuplicate, "array x again", api.Array{Name: "x", Len: 5}),
		functionFlaw(api.ErrDuplicate, "function g again", emptyFunction("g", one)),
		paramFlaw(api.ErrDuplicate, "parameter a again", "a"),
		localFlaw(api.ErrDuplicate, "local variable v again", "v"),
		localFlaw(api.ErrDuplicate, "local variable a", "a"),
		paramFlaw(api.ErrDuplicate, "parameter y", "y"),
		localFlaw(api.ErrDuplicate, "local variable x", "x"),

		stmtFlaw(api.ErrUndefined, "undefined variable", testtrees.Out(testtrees.Var("undefined"))),
		stmtFlaw(api.ErrUndefined, "undefined array", store(testtrees.Element("a", one), one)),
		stmtFlaw(api.ErrUndefined, "undefined target", testtrees.Assign("x", one)),
		stmtFlaw(api.ErrUndefined, "undefined stored array", testtrees.Store("v", one, one)),
		stmtFlaw(api.ErrUndefined, "undefined target of a call", testtrees.Call("undefined", "g", ones(1)...)),
		stmtFlaw(api.ErrUndefined, "undefined function", callOf("undefined", one)),
		valueFlaw(api.ErrUndefined, "undefined variable in a result", testtrees.Var("f")),

		stmtFlaw(api.ErrArity, "too few arguments", callOf("f")),
		stmtFlaw(api.ErrArity, "too many arguments", callOf("g", one, one)),
		stmtFlaw(api.ErrArity, "many arguments", callOf("h", ones(9)...)),
	}
}

// rank returns the place of an error in the chapter's list.
func rank(why api.Errno) int {
	return slices.Index([]api.Errno{api.ErrLimit, api.ErrSyntax, api.ErrDuplicate, api.ErrUndefined, api.ErrArity}, why)
}

func TestEachErrorAlone(t *testing.T) {
	check(t, "no flaw", ordinary(), api.OK)
	for _, f := range flaws() {
		for place := range places {
			p := ordinary()
			f.add(&p, place)
			check(t, fmt.Sprintf("%s at %d", f.what, place), p, f.why)
		}
	}
}

func TestEachPairOfErrors(t *testing.T) {
	all := flaws()
	for i, first := range all {
		for _, second := range all[:i+1] {
			want := first.why
			if rank(second.why) < rank(want) {
				want = second.why
			}
			for at := range places * places {
				p, q := ordinary(), ordinary()
				first.add(&p, at/places)
				second.add(&p, at%places)
				second.add(&q, at%places)
				first.add(&q, at/places)
				what := fmt.Sprintf("%s at %d and %s at %d", first.what, at/places, second.what, at%places)
				check(t, what, p, want)
				check(t, what+", added in the other order", q, want)
			}
		}
	}
}

// TestAllErrorsTogether puts a flaw of one error and of each later error into a program, in mixed order and at mixed places.
func TestAllErrorsTogether(t *testing.T) {
	byError := make([][]flaw, 5)
	for _, f := range flaws() {
		byError[rank(f.why)] = append(byError[rank(f.why)], f)
	}
	s := testtrees.Numbers(11)
	for range 4000 {
		first := s.Below(5)
		chosen := []flaw{}
		for _, list := range byError[first:] {
			chosen = append(chosen, list[s.Below(len(list))])
		}
		p, what := ordinary(), ""
		for len(chosen) > 0 {
			i, place := s.Below(len(chosen)), s.Below(places)
			chosen[i].add(&p, place)
			what += fmt.Sprintf("%s at %d, ", chosen[i].what, place)
			chosen = slices.Delete(chosen, i, i+1)
		}
		check(t, what, p, byError[first][0].why)
	}
}

// TestErrorsAtOnePlace has two errors in the same declaration, statement or expression.
func TestErrorsAtOnePlace(t *testing.T) {
	checkTexts(t, api.ErrLimit,
		"array x 1; array x 0;", "array x 99; func f(x) { return 0; }", "func f(a, a, a, a, a, a, a) { return 0; }", "func f() { return ~~~~~~~~~~~~~~~~~~~~~z; }",
	)
	checkTexts(t, api.ErrDuplicate,
		"func f(a, a) { return z; }", "func f(a) var a { a = f(); return a; }", "func f(a) { a = f(); return a; } func f() { return 0; }", "array x 1; func f(x) { x = 1; return x[0]; }", "array x 1; array x 1; func f() { y[0] = 1; return 0; }",
	)
	checkTexts(t, api.ErrUndefined,
		"func f(a) { z = f(); return a; }", "func f(a) { a = f(z, z); return a; }", "func f(a) { a = f(); return z; }", "func f(a) { a = g(); a = f(); return a; }", "func f(a) { a = f(1, z[0]); return a; }",
	)
	invalid := []api.Expr{{Kind: 9}, {}, {Kind: api.ExprVar, Name: "1"}}
	for i, e := range invalid {
		check(t, fmt.Sprint("deep and invalid ", i), returning(testtrees.Nested(api.MaxDeep+1, e, negated)), api.ErrLimit)
		check(t, fmt.Sprint("undefined beside invalid ", i), returning(testtrees.Op(api.OpAdd, testtrees.Var("z"), e)), api.ErrSyntax)
		check(t, fmt.Sprint("invalid argument of an undefined function ", i), withBody(testtrees.Call("a", "z", e)), api.ErrSyntax)
		check(t, fmt.Sprint("invalid argument of a wrong number ", i), withBody(call(testtrees.Num(1), e)), api.ErrSyntax)
	}
	check(t, "two arrays with the same invalid name", api.Program{Arrays: []api.Array{{Name: "-", Len: 1}, {Name: "-", Len: 1}}}, api.ErrSyntax)
	check(t, "two reserved functions", api.Program{Funcs: []api.Func{{Name: "if", Value: testtrees.Num(0)}, {Name: "if", Value: testtrees.Num(0)}}}, api.ErrSyntax)
	check(t, "two empty parameters", api.Program{Funcs: []api.Func{{Name: "f", Params: []string{"", ""}, Value: testtrees.Num(0)}}}, api.ErrSyntax)
	check(t, "invalid name and length", api.Program{Arrays: []api.Array{{Name: "-"}}}, api.ErrLimit)
}
