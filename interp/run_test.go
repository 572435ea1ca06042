package interp_test

import (
	"fmt"
	"reflect"
	"strings"
	"testing"

	"fulling/api"
	"fulling/checker"
	"fulling/interp"
	"fulling/testtrees"
)

// Promise 6.1: what Run rejects, and how a run starts and ends.

// checkZero checks that Run rejects its arguments.
func checkZero(t *testing.T, what string, p api.Program, name string, args []int64, fuel int) {
	t.Helper()
	if got := interp.Run(p, name, args, fuel); !equal(got, api.Outcome{}) {
		t.Errorf("%s: Run(%q, %v, %d) = %v, want the zero Outcome", what, name, args, fuel, got)
	}
}

// invalidPrograms returns programs with each error, by the error. The function f itself could be run in each of them.
func invalidPrograms(t *testing.T) map[api.Errno][]api.Program {
	valid := func() api.Program {
		return testtrees.MustParse(t, "array x 1; func f(a) { out 5; return a; } func g(a) var b { b = a; return b; }")
	}
	invalid := map[api.Errno][]api.Program{}
	add := func(why api.Errno, change func(p *api.Program)) {
		p := valid()
		change(&p)
		if got := checker.Check(p); got != why {
			t.Fatalf("wrong test: the error is %d, not %d", got, why)
		}
		invalid[why] = append(invalid[why], p)
	}
	add(api.ErrLimit, func(p *api.Program) { p.Arrays[0].Len = 0 })
	add(api.ErrLimit, func(p *api.Program) { p.Arrays[0].Len = -1 })
	add(api.ErrLimit, func(p *api.Program) { p.Arrays[0].Len = api.MaxLen + 1 })
	add(api.ErrLimit, func(p *api.Program) { p.Funcs[1].Body = make([]api.Stmt, api.MaxStmts+1) })
	add(api.ErrSyntax, func(p *api.Program) { p.Arrays[0].Name = "while" })
	add(api.ErrSyntax, func(p *api.Program) { p.Funcs[1].Value = api.Expr{} })
	add(api.ErrSyntax, func(p *api.Program) { p.Funcs[1].Body[0].N = 1 })
	add(api.ErrSyntax, func(p *api.Program) { p.Funcs[1].Value = testtrees.Op(api.OpLtu, testtrees.Num(1), testtrees.Num(2)) })
	add(api.ErrDuplicate, func(p *api.Program) { p.Funcs[1].Name = "f" })
	add(api.ErrDuplicate, func(p *api.Program) { p.Funcs[1].Params[0] = "x" })
	add(api.ErrDuplicate, func(p *api.Program) { p.Funcs[0].Locals = []string{"a"} })
	add(api.ErrUndefined, func(p *api.Program) { p.Funcs[1].Value = testtrees.Var("x") })
	add(api.ErrUndefined, func(p *api.Program) { p.Funcs[1].Body[0] = testtrees.Call("a", "x") })
	add(api.ErrArity, func(p *api.Program) { p.Funcs[1].Body[0] = testtrees.Call("a", "f") })
	add(api.ErrArity, func(p *api.Program) { p.Funcs[0].Body = append(p.Funcs[0].Body, testtrees.Call("a", "f")) })
	return invalid
}

func TestInvalidPrograms(t *testing.T) {
	invalid := invalidPrograms(t)
	for _, why := range []api.Errno{api.ErrLimit, api.ErrSyntax, api.ErrDuplicate, api.ErrUndefined, api.ErrArity} {
		if len(invalid[why]) < 2 {
			t.Errorf("wrong test: only %d programs with the error %d", len(invalid[why]), why)
		}
		for i, p := range invalid[why] {
			what := fmt.Sprintf("error %d, program %d", why, i)
			for _, fuel := range []int{0, 1, api.MaxFuel} {
				checkZero(t, what, p, "f", args(7), fuel)
				checkZero(t, what, p, "g", args(7), fuel)
			}
		}
	}
}

func TestUnknownNames(t *testing.T) {
	const text = "array x 1; func f(a) var b { out 5; return a; } func g2() { return 1; }"
	p := testtrees.MustParse(t, text)
	for _, name := range []string{"", "x", "a", "b", "F", "f ", " f", "ff", "g", "g22", "out", "func", "h", "f(a)", "0", "\x00", "f\x00", strings.Repeat("f", 1_000_000)} {
		checkZero(t, "unknown name", p, name, args(7), api.MaxFuel)
		checkZero(t, "unknown name", p, name, nil, api.MaxFuel)
	}
	checkZero(t, "empty program", api.Program{}, "f", nil, 0)
	checkZero(t, "empty program", api.Program{}, "", nil, 0)
	checkZero(t, "array only", testtrees.MustParse(t, "array f 1;"), "f", nil, 0)
}

// TestChoiceOfTheFunction runs each of the greatest number of functions. Their names are also those of arrays and variables.
func TestChoiceOfTheFunction(t *testing.T) {
	text := "array f0 1; array f3 2;"
	for i := range api.MaxFuncs {
		text += fmt.Sprintf(" func f%d() var f1, f7 { out %d; f1 = 50; return %d; }", i, i, 10+i)
	}
	p := testtrees.MustParse(t, text)
	for i := range api.MaxFuncs {
		if got, want := interp.Run(p, fmt.Sprint("f", i), nil, 0), returned(int64(10+i), int64(i)); !equal(got, want) {
			t.Errorf("function %d: %v, want %v", i, got, want)
		}
	}
}

// TestNumbersOfArguments runs functions of any number of parameters with any number of arguments.
func TestNumbersOfArguments(t *testing.T) {
	parameters := []string{"a", "b", "c", "d", "e", "g"}
	for n := range api.MaxParams + 1 {
		text := "func f(" + strings.Join(parameters[:n], ", ") + ") {"
		for _, name := range parameters[:n] {
			text += " out " + name + ";"
		}
		p := testtrees.MustParse(t, text+" return 9; }")
		for given := range api.MaxParams + 3 {
			list := edges[1:][:given:given]
			if given == n {
				checkProgram(t, text, p, list, 0, returned(9, list...))
			} else {
				checkZero(t, text, p, "f", list, 0)
			}
		}
		checkZero(t, text, p, "f", make([]int64, 1_000_000), 0)
	}
	p := testtrees.MustParse(t, "func f() { return 3; } func g(a) { return a; }")
	for _, empty := range [][]int64{nil, {}, make([]int64, 0, 8)} {
		checkProgram(t, "no parameters", p, empty, 0, returned(3))
		checkZero(t, "one parameter", p, "g", empty, 0)
	}
}

func TestAmountsOfFuel(t *testing.T) {
	p := testtrees.MustParse(t, "func f() { return 3; } func g(a) { while (a) { a = a - 1; } return 4; }")
	for _, fuel := range []int{smallest, smallest + 1, -1 << 32, -api.MaxFuel, -2, -1, api.MaxFuel + 1, api.MaxFuel + 2, 1 << 31, 1 << 32, 1<<32 + 1, largest - 1, largest} {
		checkZero(t, "fuel", p, "f", nil, fuel)
		checkZero(t, "fuel", p, "g", args(0), fuel)
		checkZero(t, "fuel", p, "g", args(1), fuel)
	}
	for fuel := range api.MaxFuel + 1 {
		if got := interp.Run(p, "f", nil, fuel); !equal(got, returned(3)) {
			t.Errorf("fuel %d: %v", fuel, got)
		}
		if got := interp.Run(p, "g", args(int64(fuel)), fuel); !equal(got, returned(4)) {
			t.Errorf("as many iterations as fuel %d: %v", fuel, got)
		}
		if got := interp.Run(p, "g", args(int64(fuel)+1), fuel); !equal(got, outOfFuel()) {
			t.Errorf("one iteration more than fuel %d: %v", fuel, got)
		}
	}
}

// TestStartOfARun reads everything before it is changed. A second run starts like the first.
func TestStartOfARun(t *testing.T) {
	text := "array x 16; array y 1; array z 2; func f(a, b) var c, d {" +
		" out a; out b; out c; out d; out y[0]; out z[0]; out z[1];"
	want := args(5, smallest, 0, 0, 0, 0, 0)
	for i := range api.MaxLen {
		text += fmt.Sprintf(" out x[%d]; x[%d] = 7;", i, i)
		want = append(want, 0)
	}
	text += " a = 1; b = 1; c = 2; d = 3; y[0] = 4; z[0] = 5; z[1] = 6; return c + d; }"
	p := testtrees.MustParse(t, text)
	for range 3 {
		checkProgram(t, text, p, args(5, smallest), 0, returned(5, want...))
	}
}

// TestStartOfACall reads the local variables of a function that is called several times, also while it is running already.
func TestStartOfACall(t *testing.T) {
	checkTrace(t, "func f() var a { a = g(1); a = g(2); a = g(a); return a; } func g(p) var b, c { out b; out c; b = p; c = p + 1; out b * 10 + c; return b; }", nil,
		"T 0 0 12 T 0 0 23 T 0 0 23", returned(2))
	checkTrace(t, "func f(n) var a { out a; a = n + 10; if (n) { n = f(n - 1); } out a; return 0; }", args(2), "0 T 0 T 0 10 11 12", returned(0))
	checkTrace(t, "func f(n) var a { a = a + 1; while (n) { n = n - 1; a = a + 1; } return a; }", args(3), "T T T", returned(4))
}

// TestAllVariables uses as many variables as a function can have.
func TestAllVariables(t *testing.T) {
	const text = "func f(a, b, c, d, e, g) var h, i, j, k, l, m, n, o {" +
		" h = a; i = b; j = c; k = d; l = e; m = g; n = h + i; o = n * j; a = o; g = a + m; out a; out b; out g; out k; out l; return o; }"
	checkRun(t, text, args(1, 2, 3, 4, 5, 6), 0, returned(9, 9, 2, 15, 4, 5))
	checkRun(t, text, args(-1, -2, 3, smallest, largest, 6), 0, returned(-9, -9, -2, -3, smallest, largest))
}

func TestOrderOfStatements(t *testing.T) {
	checkRun(t, "func f() var a { out a; a = 1; out a; a = a + 1; out a; a = a * 10; out 7; return a + 1; }", nil, 0, returned(21, 0, 1, 2, 7))
	checkRun(t, "func f(a) { if (a) { out 1; out 2; a = 5; out 3; } out 4; if (a) { } else { out 6; } return a; }", args(1), 0, returned(5, 1, 2, 3, 4))
	checkRun(t, "func f() { return 14; }", nil, 0, returned(14))
}

// R2 and R4: Run changes neither its arguments nor the unused capacity of slices in them, and repeats its answers.

const busyText = "array x 2; array y 3; func f(a, b) var c { x[a & 1] = 5; if (a) { b = x[1]; out b; } else { while (b) { b = b - 1; out b; } } c = g(a, b ? 1 : ~c); a = a + c; y[2] = a; out y[2]; return c / b; } func g(a, b) var c { a = 5; b = 6; c = 7; return a; }"

// spare fills the unused capacity of the slices of a program, and used gives the slices their lengths back.
func spare(p *api.Program) {
	p.Arrays = append(p.Arrays, api.Array{Name: "spare", Len: 7})
	p.Funcs = append(p.Funcs, api.Func{Name: "spare"})
	f := &p.Funcs[0]
	f.Params = append(f.Params, "spare")
	f.Locals = append(f.Locals, "spare")
	f.Body = append(f.Body, testtrees.Trap(99))
	f.Body[1].Then = append(f.Body[1].Then, testtrees.Trap(98))
	f.Body[2].Args = append(f.Body[2].Args, testtrees.Num(97))
	f.Value.Kids = append(f.Value.Kids, testtrees.Num(96))
}

func used(p api.Program) api.Program {
	p.Arrays, p.Funcs = p.Arrays[:2], append([]api.Func(nil), p.Funcs[:2]...)
	f := &p.Funcs[0]
	f.Params, f.Locals = f.Params[:2], f.Locals[:1]
	f.Body, f.Value.Kids = append([]api.Stmt(nil), f.Body[:6]...), f.Value.Kids[:2]
	f.Body[1].Then, f.Body[2].Args = f.Body[1].Then[:2], f.Body[2].Args[:2]
	return p
}

func TestArgumentsAreNotChanged(t *testing.T) {
	p, same := testtrees.MustParse(t, busyText), testtrees.MustParse(t, busyText)
	spare(&p)
	spare(&same)
	for _, c := range []struct {
		name string
		args []int64
		fuel int
		want api.Outcome
	}{
		{"f", args(1, 2), 10, returned(1, 5, 6)},
		{"f", args(0, 2), 10, trapped(api.TrapDiv, 1, 0, 5)},
		{"f", args(0, 2), 1, outOfFuel(1)},
		{"f", args(1, 2), 0, outOfFuel(5)},
		{"g", args(1, 2), 0, returned(5)},
		{"h", args(1, 2), 0, api.Outcome{}},
		{"f", args(1), 0, api.Outcome{}},
		{"f", args(1, 2, 3), 0, api.Outcome{}},
		{"f", args(1, 2), -1, api.Outcome{}},
	} {
		list := append(append([]int64(nil), c.args...), 91, 92)
		for range 3 {
			if got := interp.Run(used(p), c.name, list[:len(c.args)], c.fuel); !equal(got, c.want) {
				t.Errorf("Run(%q, %v, %d) = %v, want %v", c.name, c.args, c.fuel, got, c.want)
			}
		}
		if want := append(append([]int64(nil), c.args...), 91, 92); !reflect.DeepEqual(list, want) {
			t.Errorf("Run(%q, %v, %d) changes its arguments to %v", c.name, c.args, c.fuel, list)
		}
		if !reflect.DeepEqual(p, same) {
			t.Errorf("Run(%q, %v, %d) changes the program", c.name, c.args, c.fuel)
		}
	}
}

// TestRunsAreSeparate changes the result of one run, and the arguments after it, and runs again.
func TestRunsAreSeparate(t *testing.T) {
	p, list := testtrees.MustParse(t, busyText), args(0, 2)
	want := trapped(api.TrapDiv, 1, 0, 5)
	first := interp.Run(p, "f", list, 10)
	list[0], list[1] = 1, 1
	if !equal(first, want) {
		t.Errorf("the first run: %v", first)
	}
	for i := range first.Out {
		first.Out[i] = 77
	}
	_ = append(first.Out, 78)
	second := interp.Run(p, "f", args(0, 2), 10)
	third := interp.Run(p, "f", args(0, 2), 10)
	third.Out[0] = 79
	if !equal(second, want) {
		t.Errorf("the second run: %v", second)
	}
	p.Funcs[0].Value = testtrees.Num(4)
	checkProgram(t, "changed program", p, args(0, 2), 10, returned(4, 1, 0, 5))
}

// TestNilAndEmpty checks that it makes no difference whether a slice is nil or empty.
func TestNilAndEmpty(t *testing.T) {
	empty := []api.Stmt{}
	p := api.Program{Arrays: []api.Array{}, Funcs: []api.Func{{
		Name: "f", Params: []string{}, Locals: []string{"a"}, Value: api.Expr{Kind: api.ExprVar, Name: "a", Kids: []api.Expr{}},
		Body: []api.Stmt{
			{Kind: api.StmtAssign, Name: "a", Value: testtrees.Num(3), Args: []api.Expr{}, Then: empty, Else: empty},
			{Kind: api.StmtIf, Value: testtrees.Var("a"), Then: empty, Else: empty},
			{Kind: api.StmtWhile, Value: testtrees.Num(0), Then: empty},
			{Kind: api.StmtCall, Name: "a", To: "g", Args: []api.Expr{}},
		},
	}, {Name: "g", Body: empty, Value: testtrees.Num(8)}}}
	checkProgram(t, "empty slices", p, []int64{}, 1, returned(8))
	checkProgram(t, "empty slices", p, nil, 0, outOfFuel())
}

// Promise 6.4: the outcome's fields.

func TestOutcomes(t *testing.T) {
	const text = "func f(a, b) { out 1; out a; while (b) { b = b - 1; out b; } if (a == 3) { trap 4; } return a / (a - 2); }"
	checkRun(t, text, args(smallest, 0), 0, api.Outcome{Kind: api.Returned, Value: -1, Out: args(1, smallest)})
	checkRun(t, text, args(0, 1), 1, api.Outcome{Kind: api.Returned, Value: 0, Out: args(1, 0, 0)})
	checkRun(t, text, args(3, 1), 1, api.Outcome{Kind: api.Trapped, Code: 20, Out: args(1, 3, 0)})
	checkRun(t, text, args(2, 1), 1, api.Outcome{Kind: api.Trapped, Code: 1, Out: args(1, 2, 0)})
	checkRun(t, text, args(2, 2), 1, api.Outcome{Kind: api.OutOfFuel, Out: args(1, 2, 1)})
	checkRun(t, text, args(3, 2), 0, api.Outcome{Kind: api.OutOfFuel, Out: args(1, 3)})
}

func TestReturnedWords(t *testing.T) {
	for _, n := range edges {
		checkRun(t, "func f(a) { return a; }", args(n), 0, returned(n))
		checkRun(t, "func f(a) { out a; return 0; }", args(n), 0, returned(0, n))
	}
}

// TestTrappedAndOutOfFuelHaveNoValue ends a run in the middle of a call whose caller has values already.
func TestTrappedAndOutOfFuelHaveNoValue(t *testing.T) {
	const text = "func f(a) var b { b = g(0); b = g(a); return b; } func g(a) { while (a) { trap 1; } return 8; }"
	checkTrace(t, text, args(0), "T T", returned(8))
	checkTrace(t, text, args(1), "T T T", trapped(17))
}

// The chapter's table of examples.

func TestExamplesOfTheChapter(t *testing.T) {
	checkRun(t, "func f() { while (1) { out 7; } return 0; }", nil, 2, outOfFuel(7, 7))
}
