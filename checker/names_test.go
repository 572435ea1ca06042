package checker_test

import (
	"fmt"
	"strings"
	"testing"

	"fulling/api"
	"fulling/testtrees"
)

// Promise 4.1, ErrDuplicate.

func TestDuplicates(t *testing.T) {
	checkTexts(t, api.ErrDuplicate,
		"array x 1; array x 1;", "array x 1; array x 2;", "array x 1; array y 1; array x 1;", "array y 1; array x 1; array x 1;", "array x 1; func f() { return 0; } array x 1;",
		"func f() { return 0; } func f() { return 0; }", "func f() { return 0; } func f(a) { return a; }", "func f() { return 0; } func g() { return 0; } func f() { return 0; }", "func g() { return 0; } func f() { return 0; } func f() { return 0; }",
		"func f(a, a) { return 0; }", "func f(a, b, a) { return 0; }", "func f(b, a, a) { return 0; }", "func f(a, a, a) { return 0; }",
		"func f() var a, a { return 0; }", "func f() var a, b, a { return 0; }", "func f() var b, a, a { return 0; }",
		"func f(a) var a { return 0; }", "func f(a, b) var c, a { return 0; }", "func f(b, a) var a, c { return 0; }", "func f(a, b, c, d, e, g) var h, i, j, k, l, m, n, g { return 0; }",
		"array x 1; func f(x) { return 0; }", "array x 1; func f() var x { return 0; }", "array x 1; array y 1; func f(a, y) { return 0; }", "array x 1; array y 1; func f(a, x) { return 0; }", "array x 1; func f(a) var b, x { return 0; }",
		"func f(x) { return 0; } array x 1;", "func f() var x { return 0; } func g() { return 0; } array x 1;",
		"array x 1; func f() { return 0; } func g(x) { return 0; }", "func f() { return 0; } func g(a, a) { return 0; }", "func f(a) { return 0; } func g(a) var a { return 0; }",
	)
}

func TestNamesThatAreNotDuplicates(t *testing.T) {
	checkTexts(t, api.OK,
		"array f 1; func f() { return f[0]; }", "func f() { return f[0]; } array f 1;", "array g 1; func f() var b { b = g(); return g[b]; } func g() { return 0; }",
		"func f(f) { return f; }", "func f() var f { f = f(); return f; }", "func f(g) { g = g(); return g; } func g() var f { f = f(f); return f; }", "func g(f) { return f; } func f(g) { return g; }",
		"func f(a) var b { return a; } func g(a) var b { return b; }", "func f(a) var b { return 0; } func g(b) var a { return 0; }", "func f(a) { return a; } func g() var a { return a; }",
		"array x 1; array X 1;", "array x 1; func f(X) { return X; }", "func f(a, A) var aa, a_ { return 0; }", "func f() { return 0; } func F() { return 0; }",
		"array abcdefghijklmnop 1; array abcdefghijklmnoq 1; array bbcdefghijklmnop 1; array abcdefghijklmno 1;",
	)
}

// TestEachPairOfDuplicates repeats a name at each pair of places of a program that keeps all limits exactly.
func TestEachPairOfDuplicates(t *testing.T) {
	full := func() api.Program {
		list := functions(api.MaxFuncs)
		for i := range list {
			list[i].Params, list[i].Locals = namesFrom(fmt.Sprint("p", i, "_"), api.MaxParams), namesFrom(fmt.Sprint("l", i, "_"), api.MaxLocals)
		}
		return api.Program{Arrays: arrays(api.MaxArrays), Funcs: list}
	}
	check(t, "without duplicates", full(), api.OK)
	for i := range definitions(new(full())) {
		for j := range i {
			p := full()
			all := definitions(&p)
			a, b := all[i], all[j]
			*a.name = *b.name
			want := api.OK
			if a.kind == b.kind && a.function == b.function || a.kind+b.kind == "array variable" || a.kind+b.kind == "variablearray" {
				want = api.ErrDuplicate
			}
			check(t, fmt.Sprintf("%s %d named as %s %d", a.kind, i, b.kind, j), p, want)
		}
	}
}

// definition is a place that defines a name. The function counts for variables only.
type definition struct {
	kind     string
	function int
	name     *string
}

func definitions(p *api.Program) []definition {
	var result []definition
	for i := range p.Arrays {
		result = append(result, definition{"array", 0, &p.Arrays[i].Name})
	}
	for i := range p.Funcs {
		f := &p.Funcs[i]
		result = append(result, definition{"function", 0, &f.Name})
		for j := range f.Params {
			result = append(result, definition{"variable", i, &f.Params[j]})
		}
		for j := range f.Locals {
			result = append(result, definition{"variable", i, &f.Locals[j]})
		}
	}
	return result
}

// Promise 4.1, ErrUndefined.

// scopes returns a program with "@" in the place of the statements or the result of its middle function.
// There, a, b, c and d are variables, x and y are arrays, and f, g and h are functions; e and l are variables of the other functions only.
func scopes(statements, result string) string {
	return "array x 2; func g(e) var l { return e + l; } func f(a, b) var c, d { " + statements + " return " + result + "; } array y 2; func h(l, e) { return 0; }"
}

// useExpression returns programs that use an expression at each place.
func useExpression(expression string) []string {
	texts := []string{scopes("", expression)}
	for _, whole := range []string{expression, "-" + expression, "1 + " + expression, expression + " * 2", "x[" + expression + "]", "1 ? 2 : " + expression, "1 ? " + expression + " : 2", expression + " ? 1 : 2", "~(1 + (2 ? x[0] : y[-" + expression + "]))"} {
		for _, statement := range []string{
			"a = @;", "x[@] = 1;", "x[1] = @;", "if (@) { }", "while (@) { }", "out @;", "a = g(@);", "a = f(@, 1);", "a = f(1, @);",
			"if (a) { out @; }", "if (a) { } else { trap 1; out @; }", "while (a) { out @; out 1; }", "while (a) { if (b) { } else { while (c) { a = f(1, @); } } }",
		} {
			texts = append(texts, scopes(strings.Replace(statement, "@", whole, 1), "0"))
		}
	}
	return texts
}

// useStatement returns programs that use a statement at each nesting level.
func useStatement(statement string) []string {
	var texts []string
	for _, around := range []string{"@", "@ trap 1;", "trap 1; @", "if (a) { @ }", "if (a) { } else { @ }", "while (a) { out 1; @ out 2; }", "if (a) { if (b) { } else { while (c) { @ } } }"} {
		texts = append(texts, scopes(strings.Replace(around, "@", statement, 1), "0"))
	}
	return texts
}

func TestUndefinedVariables(t *testing.T) {
	for _, name := range []string{"a", "b", "c", "d"} {
		checkTexts(t, api.OK, useExpression(name)...)
		checkTexts(t, api.OK, useStatement(name+" = 1;")...)
		checkTexts(t, api.OK, useStatement(name+" = g(1);")...)
	}
	// These are variables of other functions, arrays, functions, and names that nothing has.
	for _, name := range []string{"e", "l", "x", "y", "f", "g", "h", "z", "A", "aa", "a_", "_"} {
		checkTexts(t, api.ErrUndefined, useExpression(name)...)
		checkTexts(t, api.ErrUndefined, useStatement(name+" = 1;")...)
		checkTexts(t, api.ErrUndefined, useStatement(name+" = g(1);")...)
	}
}

func TestUndefinedArrays(t *testing.T) {
	for _, name := range []string{"x", "y"} {
		checkTexts(t, api.OK, useExpression(name+"[a]")...)
		checkTexts(t, api.OK, useStatement(name+"[a] = b;")...)
	}
	for _, name := range []string{"a", "c", "e", "l", "f", "g", "h", "z", "X", "xx"} {
		checkTexts(t, api.ErrUndefined, useExpression(name+"[a]")...)
		checkTexts(t, api.ErrUndefined, useExpression(name+"[0]")...)
		checkTexts(t, api.ErrUndefined, useStatement(name+"[a] = b;")...)
	}
}

func TestUndefinedFunctions(t *testing.T) {
	checkTexts(t, api.OK, useStatement("a = g(1);")...)
	checkTexts(t, api.OK, useStatement("a = f(1, 2);")...)
	checkTexts(t, api.OK, useStatement("a = h(a, b);")...)
	for _, name := range []string{"a", "c", "e", "l", "x", "y", "z", "F", "ff"} {
		for _, args := range []string{"()", "(1)", "(1, 2)", "(a, b, c)"} {
			checkTexts(t, api.ErrUndefined, useStatement("a = "+name+args+";")...)
		}
	}
}

// TestNamesOfOtherFunctions takes the variables of each function from each other one.
func TestNamesOfOtherFunctions(t *testing.T) {
	for user := range api.MaxFuncs {
		for owner := range api.MaxFuncs {
			want := api.ErrUndefined
			if user == owner {
				want = api.OK
			}
			for _, name := range []string{fmt.Sprint("p", owner), fmt.Sprint("l", owner)} {
				list := functions(api.MaxFuncs)
				for i := range list {
					list[i].Params, list[i].Locals = []string{fmt.Sprint("p", i)}, []string{fmt.Sprint("l", i)}
				}
				what := fmt.Sprintf("%s in function %d", name, user)
				list[user].Value = testtrees.Var(name)
				check(t, what, api.Program{Funcs: list}, want)
				list[user].Value = testtrees.Num(0)
				list[user].Body = []api.Stmt{testtrees.Assign(name, testtrees.Num(0))}
				check(t, what, api.Program{Funcs: list}, want)
				list[user].Body = []api.Stmt{testtrees.Call(name, "f0", ones(1)...)}
				check(t, what, api.Program{Funcs: list}, want)
			}
		}
	}
}

// Promise 4.1, ErrArity.

func arguments(n int) string { return strings.TrimSuffix(strings.Repeat("1, ", n), ", ") }

// TestNumbersOfArguments calls functions that are declared before and behind the caller, and the caller itself.
func TestNumbersOfArguments(t *testing.T) {
	names := []string{"p", "q", "r", "s", "t", "u"}
	for params := range api.MaxParams + 1 {
		list := strings.Join(names[:params], ", ")
		called := "func called(" + list + ") { return 0; } "
		other := "func other(a, b, c) { return 0; } "
		for args := range api.MaxParams + 3 {
			want := api.ErrArity
			if args == params {
				want = api.OK
			}
			for _, around := range []string{"@", "trap 1; @", "if (1) { @ }", "if (1) { } else { @ }", "while (1) { trap 1; @ }", "while (1) { if (1) { } else { @ } }", "v = other(1, 2, 3); @ v = other(4, 5, 6);"} {
				body := strings.Replace(around, "@", "v = called("+arguments(args)+");", 1)
				caller := "func caller() var v { " + body + " return v; } "
				itself := "func called(" + list + ") var v { " + body + " return v; } "
				checkTexts(t, want, called+other+caller, caller+called+other, other+caller+called, itself+other, other+itself)
			}
		}
	}
}

func TestManyArguments(t *testing.T) {
	for _, args := range []int{7, 8, 100, 256, 1 << 16} {
		check(t, fmt.Sprint(args, " arguments"), withBody(call(ones(args)...)), api.ErrArity)
	}
	list := functions(api.MaxFuncs)
	for i := range list {
		list[i].Params = namesFrom("p", i%(api.MaxParams+1))
		list[i].Locals = []string{"v"}
	}
	for caller := range list {
		for callee := range list {
			for args := range api.MaxParams + 2 {
				want := api.ErrArity
				if args == len(list[callee].Params) {
					want = api.OK
				}
				changed := append([]api.Func{}, list...)
				changed[caller].Body = []api.Stmt{testtrees.Call("v", list[callee].Name, ones(args)...)}
				check(t, fmt.Sprintf("%d calls %d with %d", caller, callee, args), api.Program{Funcs: changed}, want)
			}
		}
	}
}
