package interp_test

import (
	"fmt"
	"strings"
	"testing"

	"fulling/api"
	"fulling/testtrees"
)

// Promise 6.3: what statements do. See fuel_test.go for ticks.

func TestAssignments(t *testing.T) {
	checkRun(t, "func f(a, b) var c, d { c = a; a = b; b = c; d = d + 1; d = d + 1; out a; out b; out c; out d; return a - b; }", args(3, 4), 0, returned(1, 4, 3, 3, 2))
	checkRun(t, "func f(a) { a = a + 1; a = a * a; a = -a; return a; }", args(2), 0, returned(-9))
	for _, n := range edges {
		checkRun(t, "func f(a) var b { b = a; a = 0; return b; }", args(n), 0, returned(n))
	}
}

// TestStores writes each cell of arrays of each length, and beside them. No other cell changes.
func TestStores(t *testing.T) {
	for length := 1; length <= api.MaxLen; length++ {
		text := fmt.Sprintf("array w 1; array x %d; array y 1; func f(a) { out 1; x[a] = 5; out w[0]; out y[0];", length)
		for i := range length {
			text += fmt.Sprintf(" out x[%d];", i)
		}
		text += " return x[a]; }"
		for i := range length {
			out := make([]int64, 3+length)
			out[0], out[3+i] = 1, 5
			checkRun(t, text, args(int64(i)), 0, returned(5, out...))
		}
		end := int64(length)
		for _, outside := range []int64{-1, -2, -end, end, end + 1, 17, 1 << 8, 1 << 16, 1 << 32, 1<<32 + 1, -1 << 32, 1 << 62, smallest, smallest + 1, largest, largest - 1} {
			checkRun(t, text, args(outside), 0, trapped(api.TrapIndex, 1))
		}
	}
}

// TestStoresOutOfBounds stores beside every array while the others are full. Another run finds all of them empty again.
func TestStoresOutOfBounds(t *testing.T) {
	const text = "array w 2; array x 2; array y 2; func f(a, b) { out w[0] + w[1] + x[0] + x[1] + y[0] + y[1]; w[0] = 1; w[1] = 1; x[0] = 1; x[1] = 1; y[0] = 1; y[1] = 1;" +
		" if (b == 0) { w[a] = 9; } if (b == 1) { x[a] = 9; } if (b == 2) { y[a] = 9; } return w[0] + w[1] + x[0] + x[1] + y[0] + y[1]; }"
	for b := range int64(3) {
		for _, a := range edges {
			want := trapped(api.TrapIndex, 0)
			if a == 0 || a == 1 {
				want = returned(14, 0)
			}
			checkRun(t, text, args(a, b), 0, want)
		}
	}
}

// TestOrderOfStores: the index comes first, the value next, and the bounds last.
func TestOrderOfStores(t *testing.T) {
	for statement, want := range map[string]api.Outcome{
		"x[3] = 1 / 0;":       trapped(api.TrapDiv),
		"x[-1] = 1 % 0;":      trapped(api.TrapDiv),
		"x[a] = 1 / 0;":       trapped(api.TrapDiv),
		"x[0] = 1 / 0;":       trapped(api.TrapDiv),
		"x[1 / 0] = x[3];":    trapped(api.TrapDiv),
		"x[x[3]] = 1 / 0;":    trapped(api.TrapIndex),
		"x[3] = x[3];":        trapped(api.TrapIndex),
		"x[0] = x[3];":        trapped(api.TrapIndex),
		"x[3] = 0;":           trapped(api.TrapIndex),
		"x[x[0]] = x[0] + 7;": returned(7),
		"x[0] = a; x[x[0] - x[0]] = x[0] + 1; x[2] = x[0]; x[x[2] - 99] = x[2];": returned(100),
	} {
		checkRun(t, "array x 3; func f(a) { "+statement+" return x[0]; }", args(99), 0, want)
	}
}

// TestOldAndNewCells: the value is evaluated before the cell changes, and later loads see the change.
func TestOldAndNewCells(t *testing.T) {
	checkRun(t, "array x 3; func f() { x[0] = 1; x[1] = x[0] + 1; x[0] = x[0] + x[1]; x[x[1]] = x[0]; out x[0]; out x[1]; out x[2]; return x[3 - x[0]]; }", nil, 0, returned(3, 3, 2, 3))
	checkRun(t, "array x 2; array y 2; func f() { x[1] = 4; y[1] = 5; x[0] = y[1]; y[0] = x[1]; return x[0] * 1000 + x[1] * 100 + y[0] * 10 + y[1]; }", nil, 0, returned(5445))
}

func TestBranches(t *testing.T) {
	for _, n := range edges {
		want := returned(3, 1, 2)
		if n == 0 {
			want = returned(4, -1)
		}
		checkRun(t, "func f(a) { if (a) { out 1; out 2; a = 3; } else { out -1; a = 4; } return a; }", args(n), 0, want)
		without := returned(3, 1)
		if n == 0 {
			without = returned(0)
		}
		checkRun(t, "func f(a) { if (a) { out 1; a = 3; } return a; }", args(n), 0, without)
		otherwise := returned(n)
		if n == 0 {
			otherwise = returned(4, -1)
		}
		checkRun(t, "func f(a) { if (a) { } else { out -1; a = 4; } return a; }", args(n), 0, otherwise)
	}
	// The condition is evaluated once: that Then makes it 0 does not matter.
	checkRun(t, "func f(a) { if (a) { a = 0; out 1; } else { a = 1; out 2; } return a; }", args(5), 0, returned(0, 1))
	checkRun(t, "func f(a) { if (a) { a = 0; out 1; } else { a = 1; out 2; } return a; }", args(0), 0, returned(1, 2))
	checkRun(t, "func f(a) { if (a > 1) { if (a > 2) { out 3; } else { out 2; } out 9; } else { if (a) { out 1; } else { out 0; } out 8; } return 0; }", args(2), 0, returned(0, 2, 9))
	checkRun(t, "func f(a) { if (a > 1) { if (a > 2) { out 3; } else { out 2; } out 9; } else { if (a) { out 1; } else { out 0; } out 8; } return 0; }", args(0), 0, returned(0, 0, 8))
}

func TestOutputs(t *testing.T) {
	for _, n := range edges {
		checkRun(t, "func f(a) { out a; out -a; out a; return 1; }", args(n), 0, returned(1, n, -n, n))
	}
	text := "func f() {"
	var want []int64
	for i := range api.MaxStmts {
		text += fmt.Sprintf(" out %d;", i*i)
		want = append(want, int64(i*i))
	}
	checkRun(t, text+" return 0; }", nil, 0, returned(0, want...))
}

func TestTrapCodes(t *testing.T) {
	for _, n := range []int{0, 1, 2, 15, 16, 999_999, 1_000_000} {
		checkRun(t, fmt.Sprintf("func f() { out 1; trap %d; out 2; return 3; }", n), nil, 0, trapped(16+n, 1))
	}
	checkRun(t, "func f() { trap 3; trap 4; return 1 / 0; }", nil, 0, trapped(19))
	checkRun(t, "func f() { return 0; } func g() { trap 3; return 0; }", nil, 0, returned(0))
}

// TestEmptyBodies executes statements that contain none.
func TestEmptyBodies(t *testing.T) {
	checkTrace(t, "func f(a) { if (a) { } else { } if (a) { } while (a - 5) { } return a; }", args(5), "", returned(5))
	checkRun(t, "func f(a) { while (a) { } return a; }", args(5), api.MaxFuel, outOfFuel())
}

// TestTrapsInside has a trap inside of loops, branches and calls. Nothing around it goes on.
func TestTrapsInside(t *testing.T) {
	const text = "array x 2; func f(a) var i, j, r { i = 2; while (i) { i = i - 1; out 10 + i; j = 2; while (j) { j = j - 1; out 20 + j; if (i) { out 30; } else { if (j) { out 31; } else { r = g(a); out 41; } out 42; } out 43; } out 44; } out 45; return 46; }" +
		" func g(n) var r { out 50; while (1) { if (n) { r = h(n); } else { trap 9; } out 51; } return 0; } func h(n) { if (n == 1) { n = x[2]; } if (n == 2) { x[-1] = 5; } if (n == 3) { n = n / 0; } out 60; return n % (n - 4); }"
	const before = "T 11 T 21 30 43 T 20 30 43 44 T 10 T 21 31 42 43 T 20 T 50 T"
	checkTrace(t, text, args(0), before, trapped(api.TrapUser+9))
	checkTrace(t, text, args(1), before+" T", trapped(api.TrapIndex))
	checkTrace(t, text, args(2), before+" T", trapped(api.TrapIndex))
	checkTrace(t, text, args(3), before+" T", trapped(api.TrapDiv))
	checkTrace(t, text, args(4), before+" T 60", trapped(api.TrapDiv))
}

// TestEveryEndInside ends a run at every place of a program by a statement that is put there.
func TestEveryEndInside(t *testing.T) {
	const text = "array x 2; func f(a) { @ if (a) { @ } else { @ } while (a) { a = a - 1; @ if (a) { @ while (a) { a = 0; @ } @ } @ } @ a = g(a); @ return 0; } func g(a) { @ if (1) { @ } @ return 1; }"
	places := strings.Count(text, "@")
	for at := range places {
		var body strings.Builder
		for i, part := range strings.Split(text, "@") {
			body.WriteString(part)
			if i == at {
				body.WriteString("trap 7;")
			}
			if i < places {
				fmt.Fprintf(&body, "out %d;", i)
			}
		}
		all := map[int64][]int64{3: {0, 1, 3, 4, 5, 6, 7, 8, 10, 11, 12, 9}, 0: {0, 2, 8, 10, 11, 12, 9}}
		for a, trace := range all {
			want := returned(0, trace...)
			for i, place := range trace {
				if place == int64(at) {
					want = trapped(api.TrapUser+7, trace[:i]...)
					break
				}
			}
			checkRun(t, body.String(), args(a), 100, want)
		}
	}
}

// Calls.

func TestCalls(t *testing.T) {
	// The result is assigned to a parameter and to a local variable.
	checkTrace(t, "func f(a) var b { a = g(a, 2); b = g(a, a); out a; out b; return a * b; } func g(a, b) { return a * 10 + b; }", args(1), "T T 12 132", returned(1584))
	// All arguments, in order; the callee's local variables are 0.
	checkTrace(t, "func f(a) { a = g(a, 2, 3, 4, 5, 6); return a; } func g(a, b, c, d, e, i) var j, k { out a; out b; out c; out d; out e; out i; out j; out k; return i - a; }", args(1), "T 1 2 3 4 5 6 0 0", returned(5))
	// Without arguments, and as the last and the first of several functions.
	checkTrace(t, "func h() { return 3; } func f() var a { a = h(); out a; a = g(); return a; } func g() { return 4; }", nil, "T 3 T", returned(4))
	// The callee's value is evaluated with its own variables, after its statements.
	checkTrace(t, "func f(a) var b { b = 50; a = g(7); return a + b; } func g(a) var b { b = a; a = 1; out b; return a + b; }", args(9), "T 7", returned(58))
	checkTrace(t, "func f(a) { a = g(a); return a; } func g(a) { out a; return 1 / a; }", args(0), "T 0", trapped(api.TrapDiv))
	// An argument may be the variable that is assigned, and may contain everything that expressions can.
	checkTrace(t, "array x 2; func f(a) { x[1] = 3; a = g(x[a] ? a : 9, -a); return a; } func g(a, b) { return a - b * 10; }", args(1), "T", returned(11))
}

func TestOrderOfArguments(t *testing.T) {
	for call, code := range map[string]int{
		"g(1 / 0, x[3], 0)": api.TrapDiv, "g(x[3], 1 / 0, 0)": api.TrapIndex, "g(0, 1 / 0, x[3])": api.TrapDiv, "g(0, x[3], 1 / 0)": api.TrapIndex, "g(1 / 0, 0, x[3])": api.TrapDiv, "g(x[3], 0, 1 / 0)": api.TrapIndex,
		"g(0, 0, x[3])": api.TrapIndex, "g(0, 0, 1 / 0)": api.TrapDiv,
	} {
		checkTrace(t, "array x 3; func f() var a { a = "+call+"; return a; } func g(a, b, c) { out 1; return 0; }", nil, "", trapped(code))
	}
}

// TestVariablesOfCalls: a call changes no variable of its caller but the one that gets the result, whatever the callee's variables are called.
func TestVariablesOfCalls(t *testing.T) {
	checkTrace(t, "func f(a, b) var c, d { c = 3; d = g(b, a); out a; out b; out c; out d; return 0; } func g(a, b) var c, d { out a; out b; out c; a = 11; b = 12; c = 13; d = 14; return 15; }",
		args(1, 2), "T 2 1 0 1 2 3 15", returned(0))
	// The callee assigns to its parameter, not to the variable that the caller passed.
	checkTrace(t, "func f(a) var b { b = g(a); return a * 100 + b; } func g(a) { a = a + 1; return a; }", args(1), "T", returned(102))
}

func TestRecursion(t *testing.T) {
	// Each activation has variables of its own while those of the same function below it run.
	checkTrace(t, "func f(n) var r { out n; if (n > 1) { r = f(n - 1); r = r * n; } else { r = 1; } out n; return r; }", args(4), "4 T 3 T 2 T 1 1 2 3 4", returned(24))
	checkTrace(t, "func f(n) var a, b { if (n < 2) { a = n; } else { a = f(n - 1); b = f(n - 2); } return a + b; }", args(6), repeatedTrace(24, "T"), returned(8))
	// Mutual recursion.
	const parity = "func f(n) var r { out n; if (n) { r = g(n - 1); } else { r = 1; } return r; } func g(n) var r { out -n; if (n) { r = f(n - 1); } return r; }"
	checkTrace(t, parity, args(4), "4 T -3 T 2 T -1 T 0", returned(1))
	checkTrace(t, parity, args(3), "3 T -2 T 1 T 0", returned(0))
	checkTrace(t, "func f(n) var r { r = n; if (n > 0) { r = g(n, 2); } return r; } func g(a, b) { a = h(a - b); return a; } func h(c) { c = f(c); return c * 3; }", args(3), repeatedTrace(6, "T"), returned(-9))
}

// TestSharedArrays: caller and callee see each other's stores.
func TestSharedArrays(t *testing.T) {
	checkTrace(t, "array x 3; func f() var a { x[0] = 1; a = g(5); out x[0]; out x[1]; x[1] = 8; a = g(6); out x[1]; return x[2]; } func g(a) { out x[0] + x[1] * 10; x[1] = x[0] + a; x[0] = 2; x[2] = a; return 0; }",
		nil, "T 1 2 6 T 82 8", returned(6))
	checkTrace(t, "array x 2; func f(n) { x[0] = x[0] + n; if (n) { n = f(n - 1); } x[1] = x[1] + 1; return x[0] * 10 + x[1]; }", args(3), "T T T", returned(64))
}

// TestSharedOutput: the outputs of caller and callee are in the order in which they happen.
func TestSharedOutput(t *testing.T) {
	checkTrace(t, "func f() var a { out 1; a = g(2); out 4; a = g(5); out 7; return a; } func g(a) { out a; out a + 1; return a; }", nil, "1 T 2 3 4 T 5 6 7", returned(5))
}

// R1: the deepest recursion and the longest loops have an answer.

func TestDeepestRecursion(t *testing.T) {
	checkRun(t, "func f(n) var r { if (n) { r = f(n - 1); r = r + 1; } return r; }", args(api.MaxFuel), api.MaxFuel, returned(api.MaxFuel))
	checkRun(t, "func f(n) var r { if (n) { r = f(n - 1); r = r + 1; } return r; }", args(api.MaxFuel+1), api.MaxFuel, outOfFuel())
	checkRun(t, "func f() var r { r = f(); return r; }", nil, api.MaxFuel, outOfFuel())
	checkRun(t, "func f(n) var r { if (n) { r = f(n - 1); } else { trap 1; } return r; }", args(api.MaxFuel), api.MaxFuel, trapped(17))
	// As deep as the limits allow: each call is nested in other statements, and its argument in other nodes.
	nested := "r = f(" + strings.Repeat("-(", api.MaxDeep) + "n" + strings.Repeat(")", api.MaxDeep) + " );"
	text := "func f(n) var r { " + strings.Repeat("if (1) { ", api.MaxDeep) + "n = n - 1; out n; " + nested + strings.Repeat(" }", api.MaxDeep) + " return r; }"
	var want []int64
	for i := range api.MaxFuel + 1 {
		want = append(want, int64(-1-i))
	}
	checkRun(t, text, args(0), api.MaxFuel, outOfFuel(want...))
}

// TestDeepestMutualRecursion goes around through the greatest number of functions.
func TestDeepestMutualRecursion(t *testing.T) {
	text := "func f(n) var r { r = f0(n); return r; }"
	for i := range api.MaxFuncs - 1 {
		text += fmt.Sprintf(" func f%d(n) var r { if (n) { r = f%d(n - 1); } else { r = %d; } return r; }", i, (i+1)%(api.MaxFuncs-1), i)
	}
	checkRun(t, text, args(999), api.MaxFuel, returned(999%7))
	checkRun(t, text, args(1000), api.MaxFuel, outOfFuel())
}

func TestLongLoops(t *testing.T) {
	var want []int64
	for i := range api.MaxFuel {
		want = append(want, int64(i))
	}
	checkRun(t, "func f() var a { while (1) { out a; a = a + 1; } return 0; }", nil, api.MaxFuel, outOfFuel(want...))
	// As many statements in the body as a function can have.
	text := "func f() var a { while (1) { " + strings.Repeat("out a; ", api.MaxStmts-2) + "a = a + 1; } return 0; }"
	var all []int64
	for i := range api.MaxFuel {
		for range api.MaxStmts - 2 {
			all = append(all, int64(i))
		}
	}
	checkRun(t, text, nil, api.MaxFuel, outOfFuel(all...))
	// The greatest number of loops, inside each other.
	text = "func f(n) var r { " + strings.Repeat("while (1) { r = r + 1; ", api.MaxLoops) + "out r; r = r * 2; " + strings.Repeat("} ", api.MaxLoops) + "return 0; }"
	deep := testtrees.MustParse(t, text)
	var doubled []int64
	r := int64(api.MaxLoops)
	for range api.MaxFuel - api.MaxLoops + 1 {
		doubled = append(doubled, r)
		r = r*2 + 1
	}
	checkProgram(t, text, deep, args(0), api.MaxFuel, outOfFuel(doubled...))
	checkRun(t, "func f() var i, j, n { i = 30; while (i) { i = i - 1; j = 32; while (j) { j = j - 1; n = n + 1; } } return n; }", nil, 990, returned(960))
	checkRun(t, "func f() var i, j, n { i = 30; while (i) { i = i - 1; j = 32; while (j) { j = j - 1; n = n + 1; } } return n; }", nil, 989, outOfFuel())
}

// TestCallsInLoops mixes both kinds of ticks, up to the last unit of fuel.
func TestCallsInLoops(t *testing.T) {
	const text = "func f(n) var r { while (n) { n = n - 1; r = g(r); } return r; } func g(r) { return r + 2; }"
	checkRun(t, text, args(500), api.MaxFuel, returned(1000))
	checkRun(t, text, args(501), api.MaxFuel, outOfFuel())
}

// TestUnboundedTrees runs programs whose trees are too deep, or contain themselves.
func TestUnboundedTrees(t *testing.T) {
	deep, nested := testtrees.Num(1), testtrees.Trap(1)
	for range 1_000_000 {
		deep = testtrees.Op(api.OpNeg, deep)
		nested = testtrees.If(testtrees.Num(1), []api.Stmt{nested}, nil)
	}
	checkZero(t, "deep expression", returning(deep), "f", args(1, 2), 5)
	kids := make([]api.Expr, 2)
	kids[0], kids[1] = testtrees.Op(api.OpAdd, kids...), testtrees.Num(1)
	checkZero(t, "circular expression", returning(testtrees.Op(api.OpAdd, kids...)), "f", args(1, 2), 5)
	body := make([]api.Stmt, 1)
	body[0] = testtrees.While(testtrees.Num(1), body...)
	for _, s := range []api.Stmt{nested, body[0]} {
		p := returning(testtrees.Num(1))
		p.Funcs[0].Body = []api.Stmt{s}
		checkZero(t, "statements", p, "f", args(1, 2), 5)
	}
}

// TestFullTree evaluates an expression in which every node above the greatest depth has two kids.
func TestFullTree(t *testing.T) {
	full := testtrees.Var("a")
	for range api.MaxDeep {
		full = testtrees.Op(api.OpAdd, full, full)
	}
	checkExpression(t, "full tree", full, 3, 0, returned(3<<api.MaxDeep))
}
