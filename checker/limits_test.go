package checker_test

import (
	"fmt"
	"slices"
	"testing"

	"fulling/api"
	"fulling/testtrees"
)

// Promise 4.1, ErrLimit: each limit is reached without an error, and exceeded by one with an error.

// checkLimit expects that make(most) is valid, and that make(most + 1) exceeds a limit.
func checkLimit(t *testing.T, what string, most int, make func(n int) api.Program) {
	t.Helper()
	checkLimitOfInvalid(t, what, most, api.OK, make)
}

// checkLimitOfInvalid expects that make(most) exceeds no limit but has another error.
func checkLimitOfInvalid(t *testing.T, what string, most int, why api.Errno, make func(n int) api.Program) {
	t.Helper()
	check(t, fmt.Sprintf("%d %s", most, what), make(most), why)
	check(t, fmt.Sprintf("%d %s", most+1, what), make(most+1), api.ErrLimit)
	check(t, fmt.Sprintf("%d %s", most+2, what), make(most+2), api.ErrLimit)
}

// namesFrom returns n different names.
func namesFrom(prefix string, n int) []string {
	var names []string
	for i := range n {
		names = append(names, fmt.Sprint(prefix, i))
	}
	return names
}

func arrays(n int) []api.Array {
	var result []api.Array
	for _, name := range namesFrom("x", n) {
		result = append(result, api.Array{Name: name, Len: 1})
	}
	return result
}

func functions(n int) []api.Func {
	var result []api.Func
	for _, name := range namesFrom("f", n) {
		result = append(result, api.Func{Name: name, Value: testtrees.Num(0)})
	}
	return result
}

func TestLimitsOfDeclarations(t *testing.T) {
	checkLimit(t, "arrays", api.MaxArrays, func(n int) api.Program { return api.Program{Arrays: arrays(n), Funcs: functions(api.MaxFuncs)} })
	checkLimit(t, "functions", api.MaxFuncs, func(n int) api.Program { return api.Program{Arrays: arrays(api.MaxArrays), Funcs: functions(n)} })
	for _, most := range []int{0, 4} {
		check(t, "few arrays", api.Program{Arrays: arrays(most)}, api.OK)
		check(t, "few functions", api.Program{Funcs: functions(most)}, api.OK)
	}
	for at := range api.MaxFuncs {
		inFunction := func(params, locals int) api.Program {
			list := functions(api.MaxFuncs)
			list[at].Params, list[at].Locals = namesFrom("p", params), namesFrom("l", locals)
			return api.Program{Funcs: list}
		}
		checkLimit(t, "parameters", api.MaxParams, func(n int) api.Program { return inFunction(n, api.MaxLocals) })
		checkLimit(t, "local variables", api.MaxLocals, func(n int) api.Program { return inFunction(api.MaxParams, n) })
		checkLimit(t, "parameters alone", api.MaxParams, func(n int) api.Program { return inFunction(n, 0) })
		checkLimit(t, "local variables alone", api.MaxLocals, func(n int) api.Program { return inFunction(0, n) })
	}
}

func TestArrayLengths(t *testing.T) {
	for at := range api.MaxArrays {
		for length := -3; length <= 2*api.MaxLen; length++ {
			list := arrays(api.MaxArrays)
			list[at].Len = length
			want := api.ErrLimit
			if length >= 1 && length <= api.MaxLen {
				want = api.OK
			}
			check(t, fmt.Sprintf("array %d of length %d", at, length), api.Program{Arrays: list}, want)
		}
	}
	checkTexts(t, api.OK, "array x 1;", "array x 16;")
	checkTexts(t, api.ErrLimit, "array x 0;", "array x 17;", "array x 1000000;", "array x 16; array y 0;")
}

// Statements.

func traps(n int) []api.Stmt { return slices.Repeat([]api.Stmt{testtrees.Trap(1)}, n) }

func loops(n int) []api.Stmt { return slices.Repeat([]api.Stmt{loop()}, n) }

// arrangement is a way to place statements in a body, which takes some further statements (no loops).
type arrangement struct {
	where   string
	further int
	arrange func([]api.Stmt) []api.Stmt
}

func arrangements() []arrangement {
	body := func(s ...api.Stmt) []api.Stmt { return s }
	return []arrangement{
		{"in the body", 0, func(s []api.Stmt) []api.Stmt { return s }},
		{"in Then", 1, func(s []api.Stmt) []api.Stmt { return body(branch(s, nil)) }},
		{"in Else", 1, func(s []api.Stmt) []api.Stmt { return body(branch(nil, s)) }},
		{"in Then and Else", 1, func(s []api.Stmt) []api.Stmt { return body(branch(s[:3], s[3:])) }},
		{"in several statements", 3, func(s []api.Stmt) []api.Stmt {
			return body(branch(s[:3], nil), branch(nil, nil), branch(nil, s[3:]))
		}},
		{"around a statement", 1, func(s []api.Stmt) []api.Stmt {
			return slices.Concat(s[:3], body(branch(s[3:7], s[7:9])), s[9:])
		}},
		{"at several levels", 2, func(s []api.Stmt) []api.Stmt {
			return slices.Concat(body(branch(slices.Concat(s[:2], body(branch(s[2:4], s[4:6])), s[6:8]), nil)), s[8:])
		}},
		{"at the deepest level", api.MaxDeep, func(s []api.Stmt) []api.Stmt {
			for i := range api.MaxDeep {
				if i%2 == 0 {
					s = body(branch(s, nil))
				} else {
					s = body(branch(nil, s))
				}
			}
			return s
		}},
	}
}

func TestLimitsOfStatements(t *testing.T) {
	for _, a := range arrangements() {
		for _, kind := range []api.Stmt{testtrees.Trap(1), testtrees.Out(testtrees.Num(1)), assign(testtrees.Num(1)), store(testtrees.Num(0), testtrees.Num(1)), call(testtrees.Num(1)), branch(nil, nil)} {
			checkLimit(t, "statements "+a.where, api.MaxStmts, func(n int) api.Program {
				return withBody(a.arrange(slices.Repeat([]api.Stmt{kind}, n-a.further))...)
			})
		}
		checkLimit(t, "loops "+a.where, api.MaxLoops, func(n int) api.Program { return withBody(a.arrange(loops(n))...) })
		checkLimit(t, "statements with loops "+a.where, api.MaxStmts, func(n int) api.Program {
			return withBody(a.arrange(slices.Concat(loops(api.MaxLoops), traps(n-a.further-api.MaxLoops)))...)
		})
	}
}

// TestLimitsOfNestedLoops nests the loops in each other.
func TestLimitsOfNestedLoops(t *testing.T) {
	checkLimit(t, "loops in each other", api.MaxLoops, func(n int) api.Program {
		s := loop()
		for range n - 1 {
			s = loop(testtrees.Trap(1), s)
		}
		return withBody(s)
	})
}

// TestLimitsCountForEachFunction fills every function, and exceeds a limit in each of them.
func TestLimitsCountForEachFunction(t *testing.T) {
	filled := func(at, statements, loopCount int) api.Program {
		list := functions(api.MaxFuncs)
		for i := range list {
			list[i].Params, list[i].Locals = namesFrom("p", api.MaxParams), namesFrom("l", api.MaxLocals)
			list[i].Body = slices.Concat(loops(api.MaxLoops), traps(api.MaxStmts-api.MaxLoops))
		}
		list[at].Body = slices.Concat(loops(loopCount), traps(statements-loopCount))
		return api.Program{Arrays: arrays(api.MaxArrays), Funcs: list}
	}
	for at := range api.MaxFuncs {
		checkLimit(t, "statements", api.MaxStmts, func(n int) api.Program { return filled(at, n, api.MaxLoops) })
		checkLimit(t, "loops", api.MaxLoops, func(n int) api.Program { return filled(at, api.MaxStmts, n) })
	}
}

func TestLimitsOfNestedStatements(t *testing.T) {
	inThen := func(s api.Stmt) api.Stmt { return branch([]api.Stmt{s}, nil) }
	inElse := func(s api.Stmt) api.Stmt { return branch(nil, []api.Stmt{s}) }
	behind := func(s api.Stmt) api.Stmt {
		return branch([]api.Stmt{testtrees.Trap(1), s, testtrees.Trap(2)}, traps(1))
	}
	elseIf := func(s api.Stmt) api.Stmt { return branch(traps(1), []api.Stmt{testtrees.Trap(1), s}) }
	for i, around := range []func(api.Stmt) api.Stmt{inThen, inElse, behind, elseIf} {
		checkLimit(t, fmt.Sprint("enclosing statements, form ", i), api.MaxDeep, func(n int) api.Program {
			return withBody(testtrees.Trap(1), testtrees.Nested(n, testtrees.Trap(1), around), testtrees.Trap(2))
		})
	}
	checkLimit(t, "enclosing statements with loops", api.MaxDeep, func(n int) api.Program {
		inLoops := testtrees.Nested(api.MaxLoops, testtrees.Trap(1), func(s api.Stmt) api.Stmt { return loop(s) })
		return withBody(testtrees.Nested(n-api.MaxLoops, inLoops, inElse))
	})
	checkLimit(t, "enclosing statements of an empty loop", api.MaxDeep, func(n int) api.Program { return withBody(testtrees.Nested(n, loop(), inThen)) })
}

// Expressions.

func negated(e api.Expr) api.Expr { return testtrees.Op(api.OpNeg, e) }

// surroundings returns each kind of node with each place of a kid in it.
func surroundings() []func(api.Expr) api.Expr {
	one := testtrees.Num(1)
	return []func(api.Expr) api.Expr{
		negated,
		func(e api.Expr) api.Expr { return testtrees.Op(api.OpNot, e) },
		func(e api.Expr) api.Expr { return testtrees.Op(api.OpAdd, e, one) },
		func(e api.Expr) api.Expr { return testtrees.Op(api.OpLe, one, e) },
		func(e api.Expr) api.Expr { return testtrees.Element("x", e) },
		func(e api.Expr) api.Expr { return testtrees.Cond(e, one, one) },
		func(e api.Expr) api.Expr { return testtrees.Cond(one, e, one) },
		func(e api.Expr) api.Expr { return testtrees.Cond(one, one, e) },
	}
}

func callingWithThree(args ...api.Expr) api.Program {
	p := withBody(call(args...))
	p.Funcs[0].Params = []string{"a", "c", "d"}
	return p
}

// expressionPlaces puts an expression at each place of a valid program that has one.
func expressionPlaces() map[string]func(api.Expr) api.Program {
	one := testtrees.Num(1)
	return map[string]func(api.Expr) api.Program{
		"the result":               returning,
		"the value of an assign":   func(e api.Expr) api.Program { return withBody(assign(e)) },
		"the index of a store":     func(e api.Expr) api.Program { return withBody(store(e, one)) },
		"the value of a store":     func(e api.Expr) api.Program { return withBody(store(one, e)) },
		"both of a store":          func(e api.Expr) api.Program { return withBody(store(e, e)) },
		"the condition of an if":   func(e api.Expr) api.Program { return withBody(api.Stmt{Kind: api.StmtIf, Value: e}) },
		"the condition of a while": func(e api.Expr) api.Program { return withBody(api.Stmt{Kind: api.StmtWhile, Value: e}) },
		"the value of an out":      func(e api.Expr) api.Program { return withBody(testtrees.Trap(1), testtrees.Out(e), testtrees.Trap(2)) },
		"the value in Then": func(e api.Expr) api.Program {
			return withBody(branch([]api.Stmt{testtrees.Trap(1), testtrees.Out(e)}, nil))
		},
		"the value in Else": func(e api.Expr) api.Program {
			return withBody(branch(traps(1), []api.Stmt{testtrees.Out(e), testtrees.Trap(1)}))
		},
		"the value in a loop": func(e api.Expr) api.Program { return withBody(loop(testtrees.Out(e))) },
		"the only argument":   func(e api.Expr) api.Program { return withBody(call(e)) },
		"the first argument":  func(e api.Expr) api.Program { return callingWithThree(e, one, one) },
		"the second argument": func(e api.Expr) api.Program { return callingWithThree(one, e, one) },
		"the last argument":   func(e api.Expr) api.Program { return callingWithThree(one, one, e) },
		"all arguments":       func(e api.Expr) api.Program { return callingWithThree(e, e, e) },
		"the deepest statement": func(e api.Expr) api.Program {
			return withBody(testtrees.Nested(api.MaxDeep, testtrees.Out(e), func(s api.Stmt) api.Stmt { return branch(nil, []api.Stmt{s}) }))
		},
		"the last statement": func(e api.Expr) api.Program { return withBody(append(traps(api.MaxStmts-1), testtrees.Out(e))...) },
		"the result of the last function": func(e api.Expr) api.Program {
			p := returning(testtrees.Nested(api.MaxDeep, one, negated))
			p.Funcs = append(p.Funcs, api.Func{Name: "g", Params: []string{"a"}, Value: e})
			return p
		},
	}
}

func TestLimitsOfNestedExpressions(t *testing.T) {
	for where, place := range expressionPlaces() {
		for i, around := range surroundings() {
			for _, leaf := range []api.Expr{testtrees.Num(1), testtrees.Var("a")} {
				checkLimit(t, fmt.Sprintf("enclosing nodes of form %d, %s", i, where), api.MaxDeep, func(n int) api.Program { return place(testtrees.Nested(n, leaf, around)) })
			}
		}
		checkLimit(t, "enclosing nodes of mixed forms, "+where, api.MaxDeep, func(n int) api.Program {
			next := 0
			return place(testtrees.Nested(n, testtrees.Num(1), func(e api.Expr) api.Expr {
				next++
				return surroundings()[next%len(surroundings())](e)
			}))
		})
	}
}

// Limits hold whatever the Kind of the statement or node that contains the others.

func anyKinds() []int { return []int{-1 << 63, -1, 0, 1, 2, 3, 4, 5, 6, 7, 8, 100, 1<<63 - 1} }

// TestLimitsWhateverTheKind puts statements where their Kind does not use them, so that the tree is none of a text.
func TestLimitsWhateverTheKind(t *testing.T) {
	for _, kind := range anyKinds() {
		in := func(then, otherwise []api.Stmt) api.Program {
			return withBody(testtrees.Trap(1), api.Stmt{Kind: kind, Then: then, Else: otherwise, N: 5, To: "to"})
		}
		what := fmt.Sprintf("in a statement of kind %d", kind)
		own := 0
		if kind == api.StmtWhile {
			own = 1
		}
		checkLimitOfInvalid(t, "statements in Then "+what, api.MaxStmts, api.ErrSyntax, func(n int) api.Program { return in(traps(n-2), nil) })
		checkLimitOfInvalid(t, "statements in Else "+what, api.MaxStmts, api.ErrSyntax, func(n int) api.Program { return in(nil, traps(n-2)) })
		checkLimitOfInvalid(t, "statements in both "+what, api.MaxStmts, api.ErrSyntax, func(n int) api.Program { return in(traps(50), traps(n-52)) })
		checkLimitOfInvalid(t, "loops in Then "+what, api.MaxLoops, api.ErrSyntax, func(n int) api.Program { return in(loops(n-own), nil) })
		checkLimitOfInvalid(t, "loops in Else "+what, api.MaxLoops, api.ErrSyntax, func(n int) api.Program { return in(nil, loops(n-own)) })
		checkLimitOfInvalid(t, "loops in both "+what, api.MaxLoops, api.ErrSyntax, func(n int) api.Program { return in(loops(7), loops(n-own-7)) })
		if kind != api.StmtWhile {
			checkLimitOfInvalid(t, "enclosing statements of kind "+what, api.MaxDeep, api.ErrSyntax, func(n int) api.Program {
				return withBody(testtrees.Nested(n, testtrees.Trap(-1), func(s api.Stmt) api.Stmt { return api.Stmt{Kind: kind, Then: []api.Stmt{s}} }))
			})
			checkLimitOfInvalid(t, "enclosing statements, in Else, of kind "+what, api.MaxDeep, api.ErrSyntax, func(n int) api.Program {
				return withBody(testtrees.Nested(n, testtrees.Trap(-1), func(s api.Stmt) api.Stmt { return api.Stmt{Kind: kind, Else: []api.Stmt{s}} }))
			})
		}
		checkLimitOfInvalid(t, "nodes in Kids of kind "+what, api.MaxDeep, api.ErrSyntax, func(n int) api.Program {
			return returning(testtrees.Nested(n, api.Expr{Kind: kind, N: 3, Name: "a", Op: 5}, func(e api.Expr) api.Expr { return api.Expr{Kind: kind, Kids: []api.Expr{{}, e}} }))
		})
	}
}

// TestLimitsOfUnusedExpressions fills At, Value and Args of every Kind.
func TestLimitsOfUnusedExpressions(t *testing.T) {
	for _, kind := range anyKinds() {
		for field, fill := range map[string]func(s *api.Stmt, e api.Expr){
			"At":             func(s *api.Stmt, e api.Expr) { s.At = e },
			"Value":          func(s *api.Stmt, e api.Expr) { s.Value = e },
			"the only Arg":   func(s *api.Stmt, e api.Expr) { s.Args = []api.Expr{e} },
			"the first Arg":  func(s *api.Stmt, e api.Expr) { s.Args = []api.Expr{e, {}} },
			"the last Arg":   func(s *api.Stmt, e api.Expr) { s.Args = []api.Expr{{}, {}, e} },
			"all these":      func(s *api.Stmt, e api.Expr) { s.At, s.Value, s.Args = e, e, []api.Expr{e, e} },
			"a contained At": func(s *api.Stmt, e api.Expr) { s.Else = []api.Stmt{{Kind: kind, At: e}} },
		} {
			for _, leaf := range []api.Expr{{}, testtrees.Num(1), {Kind: -1}, {Kind: 6, Name: "1"}} {
				checkLimitOfInvalid(t, fmt.Sprintf("enclosing nodes in %s of kind %d", field, kind), api.MaxDeep, api.ErrSyntax, func(n int) api.Program {
					s := api.Stmt{Kind: kind, N: -1}
					fill(&s, testtrees.Nested(n, leaf, func(e api.Expr) api.Expr { return api.Expr{Kids: []api.Expr{e}} }))
					return withBody(s)
				})
			}
		}
	}
}
