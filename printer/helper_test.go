package printer_test

import (
	"strings"
	"testing"

	"fulling/api"
	"fulling/checker"
	"fulling/parser"
	"fulling/printer"
	"fulling/testtrees"
)

// lines returns a text of lines, each of which ends with a line feed.
func lines(list ...string) string {
	if len(list) == 0 {
		return ""
	}
	return strings.Join(list, "\n") + "\n"
}

// checkPrint checks the text of a valid program, and promise 5.3 for it.
func checkPrint(t *testing.T, p api.Program, want string) {
	t.Helper()
	if why := checker.Check(p); why != api.OK {
		t.Fatalf("wrong test: the program of %.200q has the error %d", want, why)
	}
	if got := printer.Print(p); got != want {
		t.Errorf("Print = %.2000q, want %.2000q", got, want)
	}
	checkRoundTrip(t, p)
}

// checkRoundTrip checks promise 5.3, unless the text is too long to be parsed.
func checkRoundTrip(t *testing.T, p api.Program) {
	t.Helper()
	text := printer.Print(p)
	if len(text) > api.MaxText {
		return
	}
	back, err := parser.Parse(text)
	if err.Why != api.OK || !testtrees.EqualPrograms(back, p) {
		t.Errorf("Parse(%.2000q) = %+v, %v, want %+v", text, back, err, p)
	}
	if again := printer.Print(back); again != text {
		t.Errorf("Print = %.2000q, and after parsing %.2000q", text, again)
	}
}

// checkNoText checks that Print returns no text for a program with the given error.
func checkNoText(t *testing.T, what string, p api.Program, why api.Errno) {
	t.Helper()
	if got := checker.Check(p); got != why {
		t.Fatalf("wrong test: %s has the error %d, not %d", what, got, why)
	}
	if got := printer.Print(p); got != "" {
		t.Errorf("%s: Print = %.2000q, want no text", what, got)
	}
}

// withBody returns a program of arrays x and y and functions f(a) var b and g(), and linesWithBody its text, with the given statements in f.
func withBody(body ...api.Stmt) api.Program {
	return api.Program{
		Arrays: []api.Array{{Name: "x", Len: 4}, {Name: "y", Len: 5}},
		Funcs: []api.Func{
			{Name: "f", Params: []string{"a"}, Locals: []string{"b"}, Body: body, Value: testtrees.Num(0)},
			{Name: "g", Value: testtrees.Num(1)},
		},
	}
}

func linesWithBody(body ...string) string {
	text := lines("array x 4;", "array y 5;", "func f(a) var b {") + lines(body...)
	return text + lines("  return 0;", "}", "func g() {", "  return 1;", "}")
}

func checkBody(t *testing.T, body []api.Stmt, want ...string) {
	t.Helper()
	checkPrint(t, withBody(body...), linesWithBody(want...))
}

func body(list ...api.Stmt) []api.Stmt { return list }

// checkExpression checks the text of an expression wherever a program can have one. None of these places adds parentheses.
func checkExpression(t *testing.T, e api.Expr, want string) {
	t.Helper()
	stored := testtrees.Store("x", e, e)
	called := api.Program{Funcs: []api.Func{{Name: "f", Params: []string{"a", "b"}, Body: body(testtrees.Call("b", "f", e, e)), Value: e}}, Arrays: withBody().Arrays}
	checkBody(t,
		body(testtrees.Assign("b", e), stored, testtrees.Out(e), testtrees.If(e, body(testtrees.Out(e)), body(stored)), testtrees.While(e)),
		"  b = "+want+";",
		"  x["+want+"] = "+want+";",
		"  out "+want+";",
		"  if ("+want+") {",
		"    out "+want+";",
		"  } else {",
		"    x["+want+"] = "+want+";",
		"  }",
		"  while ("+want+") {",
		"  }",
	)
	checkPrint(t, called, lines("array x 4;", "array y 5;", "func f(a, b) {", "  b = f("+want+", "+want+");", "  return "+want+";", "}"))
}
