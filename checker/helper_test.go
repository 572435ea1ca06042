package checker_test

import (
	"testing"

	"fulling/api"
	"fulling/checker"
	"fulling/testtrees"
)

// assign, store, call, branch and loop build statements for the program of withBody.
func assign(value api.Expr) api.Stmt { return testtrees.Assign("a", value) }

func store(at, value api.Expr) api.Stmt { return testtrees.Store("x", at, value) }

func call(args ...api.Expr) api.Stmt { return testtrees.Call("a", "f", args...) }

func branch(then, otherwise []api.Stmt) api.Stmt {
	return testtrees.If(testtrees.Num(1), then, otherwise)
}

func loop(body ...api.Stmt) api.Stmt { return testtrees.While(testtrees.Num(0), body...) }

// withBody returns a program of an array x and a function f with the parameter a and the local variable b.
func withBody(body ...api.Stmt) api.Program {
	return api.Program{
		Arrays: []api.Array{{Name: "x", Len: 4}},
		Funcs:  []api.Func{{Name: "f", Params: []string{"a"}, Locals: []string{"b"}, Body: body, Value: testtrees.Num(0)}},
	}
}

// returning returns the same program with the given result and without statements.
func returning(value api.Expr) api.Program {
	p := withBody()
	p.Funcs[0].Value = value
	return p
}

func check(t *testing.T, what string, p api.Program, want api.Errno) {
	t.Helper()
	if got := checker.Check(p); got != want {
		t.Errorf("%.300s: Check = %d, want %d", what, got, want)
	}
}

func checkTexts(t *testing.T, want api.Errno, texts ...string) {
	t.Helper()
	for _, text := range texts {
		check(t, text, testtrees.MustParse(t, text), want)
	}
}
