package printer_test

import (
	"strconv"
	"strings"
	"testing"

	"fulling/api"
	"fulling/testtrees"
)

// Promise 5.1: statements.

func TestSimpleStatements(t *testing.T) {
	five, a, b := testtrees.Num(5), testtrees.Var("a"), testtrees.Var("b")
	checkBody(t, nil)
	checkBody(t, body(testtrees.Assign("a", five)), "  a = 5;")
	checkBody(t, body(testtrees.Assign("b", a)), "  b = a;")
	checkBody(t, body(testtrees.Store("x", a, five)), "  x[a] = 5;")
	checkBody(t, body(testtrees.Store("y", testtrees.Element("x", b), testtrees.Element("y", five))), "  y[x[b]] = y[5];")
	checkBody(t, body(testtrees.Out(five)), "  out 5;")
	checkBody(t, body(testtrees.Out(b)), "  out b;")
	checkBody(t, body(testtrees.Call("a", "g")), "  a = g();")
	checkBody(t, body(testtrees.Call("b", "f", a)), "  b = f(a);")
	checkBody(t, body(testtrees.Out(a), testtrees.Trap(1), testtrees.Assign("a", b)), "  out a;", "  trap 1;", "  a = b;")
}

func TestTraps(t *testing.T) {
	for _, n := range []int{0, 1, 9, 10, 16, 999_999, 1_000_000} {
		checkBody(t, body(testtrees.Trap(n)), "  trap "+strconv.Itoa(n)+";")
	}
}

func TestNumberOfArguments(t *testing.T) {
	params := []string{"a", "b", "c", "d", "e", "f"}
	for n, list := range []string{"", "0", "0, -1", "0, -1, -2", "0, -1, -2, -3", "0, -1, -2, -3, -4", "0, -1, -2, -3, -4, -5"} {
		var args []api.Expr
		for i := range n {
			args = append(args, testtrees.Num(int64(-i)))
		}
		called := api.Func{Name: "called", Params: params[:n], Value: testtrees.Num(0)}
		calling := api.Func{Name: "calling", Locals: []string{"v"}, Body: body(testtrees.Call("v", "called", args...)), Value: testtrees.Num(1)}
		checkPrint(t, api.Program{Funcs: []api.Func{called, calling}}, lines(
			"func called("+strings.Join(params[:n], ", ")+") {", "  return 0;", "}", "func calling() var v {", "  v = called("+list+");", "  return 1;", "}",
		))
	}
}

func TestIfAndWhile(t *testing.T) {
	a, one, two := testtrees.Var("a"), testtrees.Trap(1), testtrees.Trap(2)
	checkBody(t, body(testtrees.If(a, nil, nil)), "  if (a) {", "  }")
	checkBody(t, body(testtrees.If(a, body(one), nil)), "  if (a) {", "    trap 1;", "  }")
	checkBody(t, body(testtrees.If(a, nil, body(one))), "  if (a) {", "  } else {", "    trap 1;", "  }")
	checkBody(t, body(testtrees.If(a, body(one), body(two))), "  if (a) {", "    trap 1;", "  } else {", "    trap 2;", "  }")
	checkBody(t, body(testtrees.If(a, body(one, two), body(two, one, two)), one), "  if (a) {", "    trap 1;", "    trap 2;", "  } else {", "    trap 2;", "    trap 1;", "    trap 2;", "  }", "  trap 1;")
	checkBody(t, body(testtrees.While(a)), "  while (a) {", "  }")
	checkBody(t, body(testtrees.While(a, one)), "  while (a) {", "    trap 1;", "  }")
	checkBody(t, body(one, testtrees.While(a, one, two), two), "  trap 1;", "  while (a) {", "    trap 1;", "    trap 2;", "  }", "  trap 2;")
	checkBody(t, body(testtrees.While(a), testtrees.If(a, nil, nil), testtrees.While(a)), "  while (a) {", "  }", "  if (a) {", "  }", "  while (a) {", "  }")
}

// TestElseIf has if statements in an Else and in a Then. The one in the Else gets lines of its own.
func TestElseIf(t *testing.T) {
	a, b, one := testtrees.Var("a"), testtrees.Var("b"), testtrees.Trap(1)
	inner := testtrees.If(b, nil, body(one))
	checkBody(t, body(testtrees.If(a, nil, body(inner))), "  if (a) {", "  } else {", "    if (b) {", "    } else {", "      trap 1;", "    }", "  }")
	checkBody(t, body(testtrees.If(a, body(inner), nil)), "  if (a) {", "    if (b) {", "    } else {", "      trap 1;", "    }", "  }")
	checkBody(t, body(testtrees.If(a, body(testtrees.If(b, nil, nil)), body(one))), "  if (a) {", "    if (b) {", "    }", "  } else {", "    trap 1;", "  }")
}

// manyStatements has a statement of each kind, and their lines without indentation.
func manyStatements() ([]api.Stmt, []string) {
	one := testtrees.Num(1)
	return body(
		testtrees.Assign("a", one), testtrees.Call("b", "g"), testtrees.Store("x", one, one), testtrees.Out(one), testtrees.Trap(1), testtrees.If(one, nil, body(testtrees.Trap(2))), testtrees.While(one, testtrees.Trap(3)),
	), []string{
		"a = 1;", "b = g();", "x[1] = 1;", "out 1;", "trap 1;", "if (1) {", "} else {", "  trap 2;", "}", "while (1) {", "  trap 3;", "}",
	}
}

func indented(list []string, levels int) []string {
	var result []string
	for _, line := range list {
		result = append(result, strings.Repeat("  ", levels)+line)
	}
	return result
}

// enclosing is a way to enclose a statement: the statement around it, and the lines before and behind it.
type enclosing struct {
	around         func(api.Stmt) api.Stmt
	before, behind []string
	most           int
}

func enclosings() []enclosing {
	a, one := testtrees.Var("a"), testtrees.Trap(1)
	return []enclosing{
		{func(s api.Stmt) api.Stmt { return testtrees.If(a, body(s), nil) }, []string{"if (a) {"}, []string{"}"}, api.MaxDeep},
		{func(s api.Stmt) api.Stmt { return testtrees.If(a, nil, body(s)) }, []string{"if (a) {", "} else {"}, []string{"}"}, api.MaxDeep},
		{func(s api.Stmt) api.Stmt { return testtrees.If(a, body(one, s), body(one)) }, []string{"if (a) {", "  trap 1;"}, []string{"} else {", "  trap 1;", "}"}, api.MaxDeep},
		{func(s api.Stmt) api.Stmt { return testtrees.If(a, body(one), body(s, one)) }, []string{"if (a) {", "  trap 1;", "} else {"}, []string{"  trap 1;", "}"}, api.MaxDeep},
		{func(s api.Stmt) api.Stmt { return testtrees.While(a, s) }, []string{"while (a) {"}, []string{"}"}, api.MaxLoops - 1},
	}
}

// TestIndentation encloses a statement of each kind up to the greatest depth.
func TestIndentation(t *testing.T) {
	innermost, ownLines := manyStatements()
	for _, e := range enclosings() {
		for depth := range e.most {
			s := testtrees.If(testtrees.Var("b"), innermost, innermost[:1])
			list := append([]string{"if (b) {"}, indented(ownLines, 1)...)
			list = append(list, "} else {", "  a = 1;", "}")
			for range min(depth, api.MaxDeep-2) {
				s = e.around(s)
				list = append(append(append([]string(nil), e.before...), indented(list, 1)...), e.behind...)
			}
			checkBody(t, body(s, testtrees.Out(testtrees.Var("a"))), append(indented(list, 1), "  out a;")...)
		}
	}
}

// TestGreatestDepth prints a statement that is nested in as many others as Check allows.
func TestGreatestDepth(t *testing.T) {
	for _, e := range enclosings() {
		s, list := testtrees.Trap(6), []string{"trap 6;"}
		for i := range api.MaxDeep {
			next := e
			if i >= e.most {
				next = enclosings()[0]
			}
			s = next.around(s)
			list = append(append(append([]string(nil), next.before...), indented(list, 1)...), next.behind...)
		}
		deepest := strings.Repeat(" ", 2*(api.MaxDeep+1)) + "trap 6;"
		if text := lines(indented(list, 1)...); !strings.Contains(text, "\n"+deepest+"\n") {
			t.Fatalf("wrong test: %s", text)
		}
		checkBody(t, body(s), indented(list, 1)...)
	}
}

// TestMostStatements prints a function that is as long as Check allows.
func TestMostStatements(t *testing.T) {
	var list []api.Stmt
	var want []string
	for i := range api.MaxStmts {
		if i < api.MaxLoops {
			list, want = append(list, testtrees.While(testtrees.Num(0))), append(want, "  while (0) {", "  }")
		} else {
			list, want = append(list, testtrees.Trap(i)), append(want, "  trap "+strconv.Itoa(i)+";")
		}
	}
	checkBody(t, list, want...)
}
