package interp_test

import (
	"fmt"
	"strings"
	"testing"

	"fulling/api"
	"fulling/testtrees"
)

// Promise 6.2: the values of expressions, and the order in which they are evaluated.

// unary and binary are the operations without package word. They do not know division by 0, which traps.
var unary = map[int]func(a int64) int64{
	api.OpNeg: func(a int64) int64 { return 0 - a },
	api.OpNot: func(a int64) int64 { return -1 - a },
}

var binary = map[int]func(a, b int64) int64{
	api.OpAdd: func(a, b int64) int64 { return a + b },
	api.OpSub: func(a, b int64) int64 { return a - b },
	api.OpMul: func(a, b int64) int64 { return a * b },
	api.OpDiv: func(a, b int64) int64 { return a / b },
	api.OpRem: func(a, b int64) int64 { return a % b },
	api.OpAnd: func(a, b int64) int64 { return a & b },
	api.OpOr:  func(a, b int64) int64 { return a | b },
	api.OpXor: func(a, b int64) int64 { return a ^ b },
	api.OpShl: func(a, b int64) int64 { return a << (b & 63) },
	api.OpShr: func(a, b int64) int64 { return int64(uint64(a) >> (b & 63)) },
	api.OpSar: func(a, b int64) int64 { return a >> (b & 63) },
	api.OpEq:  func(a, b int64) int64 { return oneIf(a == b) },
	api.OpNe:  func(a, b int64) int64 { return oneIf(a != b) },
	api.OpLt:  func(a, b int64) int64 { return oneIf(a < b) },
	api.OpLe:  func(a, b int64) int64 { return oneIf(a <= b) },
}

func oneIf(holds bool) int64 {
	if holds {
		return 1
	}
	return 0
}

func isDivision(op int) bool { return op == api.OpDiv || op == api.OpRem }

// returning returns a program of arrays x and y and a function f(a, b) that returns the value of an expression.
func returning(e api.Expr) api.Program {
	return api.Program{
		Arrays: []api.Array{{Name: "x", Len: 3}, {Name: "y", Len: 2}},
		Funcs:  []api.Func{{Name: "f", Params: []string{"a", "b"}, Value: e}},
	}
}

// checkExpression checks the value of an expression, or its trap.
func checkExpression(t *testing.T, what string, e api.Expr, a, b int64, want api.Outcome) {
	t.Helper()
	checkProgram(t, what, returning(e), args(a, b), 0, want)
}

// divides and indexes are expressions that trap, each in its own way.
func divides() api.Expr { return testtrees.Op(api.OpDiv, testtrees.Num(1), testtrees.Num(0)) }

func indexes() api.Expr { return testtrees.Element("x", testtrees.Num(3)) }

func TestNumbersAndVariables(t *testing.T) {
	for _, n := range edges {
		checkExpression(t, "number", testtrees.Num(n), 1, 2, returned(n))
		checkExpression(t, "first variable", testtrees.Var("a"), n, 2, returned(n))
		checkExpression(t, "second variable", testtrees.Var("b"), 1, n, returned(n))
	}
}

func TestUnaryOperations(t *testing.T) {
	for _, op := range []int{api.OpNeg, api.OpNot} {
		for _, n := range edges {
			want := returned(unary[op](n))
			checkExpression(t, fmt.Sprint("operation ", op), testtrees.Op(op, testtrees.Var("a")), n, 1, want)
			checkExpression(t, fmt.Sprint("constant operation ", op), testtrees.Op(op, testtrees.Num(n)), 3, 1, want)
		}
		checkExpression(t, "trap in the operand", testtrees.Op(op, divides()), 0, 0, trapped(api.TrapDiv))
		checkExpression(t, "trap in the operand", testtrees.Op(op, indexes()), 0, 0, trapped(api.TrapIndex))
	}
}

func TestBinaryOperations(t *testing.T) {
	for op := api.OpAdd; op <= api.OpLe; op++ {
		for _, a := range edges {
			for _, b := range edges {
				want := trapped(api.TrapDiv)
				if !isDivision(op) || b != 0 {
					want = returned(binary[op](a, b))
				}
				what := fmt.Sprintf("operation %d of %d and %d", op, a, b)
				checkExpression(t, what, testtrees.Op(op, testtrees.Var("a"), testtrees.Var("b")), a, b, want)
				checkExpression(t, what, testtrees.Op(op, testtrees.Num(a), testtrees.Num(b)), 0, 0, want)
			}
		}
	}
}

// TestTextsOfOperations checks values that are written out, for every operation of the language.
func TestTextsOfOperations(t *testing.T) {
	for expression, want := range map[string]int64{
		"a + b": 5, "a - b": 9, "a * b": -14, "a / b": -3, "a % b": 1, "b / a": 0, "b % a": -2, "-a / 2": -3, "-a % 2": -1,
		"a & b": 6, "a | b": -1, "a ^ b": -7, "~a": -8, "-b": 2, "!a": 0, "!0": 1, "!!b": 1,
		"a << 3": 56, "b << 63": 0, "a << 63": smallest, "a << 64": 7, "a << -1": smallest, "b >> 1": -1, "b >>> 1": largest, "b >>> 63": 1, "b >> 64": -2, "b >>> 64": -2,
		"a == 7": 1, "a == b": 0, "a != 7": 0, "a != b": 1, "a < b": 0, "b < a": 1, "a < a": 0, "a <= b": 0, "b <= a": 1, "a <= a": 1,
		"a > b": 1, "b > a": 0, "a > a": 0, "a >= b": 1, "b >= a": 0, "a >= a": 1,
		"9223372036854775807 + 1": smallest, "-9223372036854775808 - 1": largest, "-9223372036854775808 / -1": smallest, "-9223372036854775808 % -1": 0, "-(-9223372036854775808)": smallest,
		"9223372036854775807 * 2": -2, "-9223372036854775808 * -1": smallest,
		"2 + 3 * 4": 14, "(2 + 3) * 4": 20, "10 - 3 - 2": 5, "a ? b : 5": -2, "a - 7 ? b : 5": 5, "(a > 5) + (b > 5) * 2": 1, "a * a - b * b": 45, "x[0]": 0, "x[a - 5]": 0, "x[x[x[0]]]": 0, "y[1] + a": 7,
	} {
		checkRun(t, "array x 3; array y 2; func f(a, b) { return "+expression+"; }", args(7, -2), 0, returned(want))
	}
}

// TestOrderOfOperands has operands that trap, each in its own way.
func TestOrderOfOperands(t *testing.T) {
	for op := api.OpAdd; op <= api.OpLe; op++ {
		what := fmt.Sprint("operands of ", op)
		checkExpression(t, what, testtrees.Op(op, divides(), indexes()), 0, 0, trapped(api.TrapDiv))
		checkExpression(t, what, testtrees.Op(op, indexes(), divides()), 0, 0, trapped(api.TrapIndex))
		for _, n := range []int64{0, 1, -1} {
			checkExpression(t, what, testtrees.Op(op, testtrees.Num(n), indexes()), 0, 0, trapped(api.TrapIndex))
			checkExpression(t, what, testtrees.Op(op, testtrees.Num(n), divides()), 0, 0, trapped(api.TrapDiv))
			checkExpression(t, what, testtrees.Op(op, indexes(), testtrees.Num(n)), 0, 0, trapped(api.TrapIndex))
			checkExpression(t, what, testtrees.Op(op, divides(), testtrees.Num(n)), 0, 0, trapped(api.TrapDiv))
		}
		inner := testtrees.Op(op, testtrees.Op(op, testtrees.Num(5), indexes()), testtrees.Op(op, divides(), testtrees.Num(2)))
		checkExpression(t, what, inner, 0, 0, trapped(api.TrapIndex))
	}
}

// TestOrderOfReversedComparisons: the operands of > and >= are exchanged by the parser, so the right one comes first.
func TestOrderOfReversedComparisons(t *testing.T) {
	for _, symbol := range []string{">", ">="} {
		checkRun(t, "array x 3; func f() { return 1 / 0 "+symbol+" x[3]; }", nil, 0, trapped(api.TrapIndex))
		checkRun(t, "array x 3; func f() { return x[3] "+symbol+" 1 / 0; }", nil, 0, trapped(api.TrapDiv))
	}
}

// TestDivisionsByZero: the division itself traps after both operands.
func TestDivisionsByZero(t *testing.T) {
	for _, op := range []int{api.OpDiv, api.OpRem} {
		for _, n := range edges {
			checkExpression(t, "divided by 0", testtrees.Op(op, testtrees.Num(n), testtrees.Num(0)), 0, 0, trapped(api.TrapDiv))
			checkExpression(t, "divided by a variable", testtrees.Op(op, testtrees.Num(n), testtrees.Var("b")), 1, 0, trapped(api.TrapDiv))
			checkExpression(t, "divided by a cell", testtrees.Op(op, testtrees.Num(n), testtrees.Element("x", testtrees.Num(0))), 1, 1, trapped(api.TrapDiv))
		}
		checkExpression(t, "first operand traps", testtrees.Op(op, indexes(), testtrees.Num(0)), 0, 0, trapped(api.TrapIndex))
		checkExpression(t, "division, then a load", testtrees.Op(api.OpAdd, testtrees.Op(op, testtrees.Num(1), testtrees.Num(0)), indexes()), 0, 0, trapped(api.TrapDiv))
		checkExpression(t, "load, then a division", testtrees.Op(api.OpAdd, indexes(), testtrees.Op(op, testtrees.Num(1), testtrees.Num(0))), 0, 0, trapped(api.TrapIndex))
		checkExpression(t, "0 divided", testtrees.Op(op, testtrees.Num(0), testtrees.Var("b")), 0, 5, returned(0))
	}
	checkExpression(t, "smallest / -1", testtrees.Op(api.OpDiv, testtrees.Var("a"), testtrees.Var("b")), smallest, -1, returned(smallest))
	checkExpression(t, "smallest % -1", testtrees.Op(api.OpRem, testtrees.Var("a"), testtrees.Var("b")), smallest, -1, returned(0))
	checkExpression(t, "other operations with 0", testtrees.Op(api.OpMul, testtrees.Var("a"), testtrees.Op(api.OpShr, testtrees.Var("a"), testtrees.Var("b"))), 3, 0, returned(9))
}

// TestIndices loads each cell of arrays of each length, and what lies beside them. The cells of x differ from each other and from those of the arrays around it.
func TestIndices(t *testing.T) {
	for length := 1; length <= api.MaxLen; length++ {
		text := fmt.Sprintf("array w 2; array x %d; array y 2; func f(a) var i {", length)
		for i := range length {
			text += fmt.Sprintf(" x[%d] = %d;", i, 100+i)
		}
		text += " w[0] = 1; w[1] = 2; y[0] = 3; y[1] = 4; return x[a]; }"
		for i := range length {
			checkRun(t, text, args(int64(i)), 0, returned(int64(100+i)))
		}
		end := int64(length)
		for _, outside := range []int64{-1, -2, -end, end, end + 1, 17, 1 << 8, 1 << 16, 1 << 32, 1<<32 + 1, -1 << 32, 1 << 62, smallest, smallest + 1, largest, largest - 1} {
			checkRun(t, text, args(outside), 0, trapped(api.TrapIndex))
		}
	}
}

func TestIndexExpressions(t *testing.T) {
	const program = "array x 3; array y 2; func f(a, b) { x[0] = 2; x[1] = 0; x[2] = 1; y[1] = 8; return %s; }"
	for expression, want := range map[string]api.Outcome{
		"x[a]":                  returned(0),
		"x[x[a]]":               returned(2),
		"x[x[x[a]]]":            returned(1),
		"y[x[2]]":               returned(8),
		"y[x[0]]":               trapped(api.TrapIndex),
		"x[a + b]":              returned(1),
		"x[a - b - 1]":          trapped(api.TrapIndex),
		"x[1 / 0]":              trapped(api.TrapDiv),
		"x[1 / 0] + x[3]":       trapped(api.TrapDiv),
		"x[3] + x[1 / 0]":       trapped(api.TrapIndex),
		"x[y[2] / 0]":           trapped(api.TrapIndex),
		"x[x[3 / 0]]":           trapped(api.TrapDiv),
		"x[3] / 0":              trapped(api.TrapIndex),
		"x[0] * 100 + x[2] * 7": returned(207),
	} {
		checkRun(t, fmt.Sprintf(program, expression), args(1, 1), 0, want)
	}
}

// TestAlternatives: the operand that is not chosen has no effect, even if it traps.
func TestAlternatives(t *testing.T) {
	for _, n := range edges {
		want := returned(11)
		if n == 0 {
			want = returned(22)
		}
		checkExpression(t, "values", testtrees.Cond(testtrees.Var("a"), testtrees.Num(11), testtrees.Num(22)), n, 0, want)
		first, second := returned(11), trapped(api.TrapIndex)
		if n == 0 {
			first, second = trapped(api.TrapDiv), returned(22)
		}
		checkExpression(t, "trap in the third", testtrees.Cond(testtrees.Var("a"), testtrees.Num(11), divides()), n, 0, first)
		checkExpression(t, "trap in the second", testtrees.Cond(testtrees.Var("a"), indexes(), testtrees.Num(22)), n, 0, second)
	}
	one, zero := testtrees.Num(1), testtrees.Num(0)
	checkExpression(t, "both trap, second chosen", testtrees.Cond(one, divides(), indexes()), 0, 0, trapped(api.TrapDiv))
	checkExpression(t, "both trap, third chosen", testtrees.Cond(zero, divides(), indexes()), 0, 0, trapped(api.TrapIndex))
	checkExpression(t, "condition traps first", testtrees.Cond(divides(), indexes(), indexes()), 0, 0, trapped(api.TrapDiv))
	checkExpression(t, "condition traps first", testtrees.Cond(indexes(), divides(), divides()), 0, 0, trapped(api.TrapIndex))
	checkExpression(t, "nested", testtrees.Cond(one, testtrees.Cond(zero, divides(), testtrees.Num(3)), divides()), 0, 0, returned(3))
	checkExpression(t, "nested", testtrees.Cond(zero, divides(), testtrees.Cond(one, testtrees.Num(4), divides())), 0, 0, returned(4))
	checkExpression(t, "condition is an alternative", testtrees.Cond(testtrees.Cond(one, zero, divides()), divides(), testtrees.Num(5)), 0, 0, returned(5))
}

// TestPlacesOfExpressions has expressions that trap wherever a function can have one. The outputs around them show how far the run has come.
func TestPlacesOfExpressions(t *testing.T) {
	evaluated := []string{
		"out 1; a = @; out 2; return 0;",
		"out 1; x[@] = 5; out 2; return 0;",
		"out 1; x[0] = @; out 2; return 0;",
		"out 1; if (@) { out 3; } else { out 4; } out 2; return 0;",
		"out 1; while (@) { out 3; } out 2; return 0;",
		"out 1; out @; out 2; return 0;",
		"out 1; a = g(@, 4); out 2; return 0;",
		"out 1; a = g(4, @); out 2; return 0;",
		"out 1; if (1) { out @; out 3; } else { out 4; } out 2; return 0;",
		"out 1; if (0) { out 3; } else { out @; out 4; } out 2; return 0;",
		"out 1; while (1) { out @; } out 2; return 0;",
		"out 1; return @;",
	}
	skipped := []string{
		"out 1; if (0) { a = @; } out 2; return 0;",
		"out 1; if (1) { } else { x[@] = 1; } out 2; return 0;",
		"out 1; while (0) { out @; } out 2; return 0;",
		"out 1; out 0 ? @ : 2; return 0;",
		"out 1; out 1 ? 2 : @; return 0;",
		"out 1; out 2; return 1 ? 0 : @;",
	}
	for expression, code := range map[string]int{"1 / 0": api.TrapDiv, "7 % (a - a)": api.TrapDiv, "x[a + 1]": api.TrapIndex, "-x[-1]": api.TrapIndex, "a ? x[2] : 0": api.TrapIndex} {
		for _, body := range evaluated {
			checkRun(t, inBody(body, expression), args(1), 5, trapped(code, 1))
		}
		for _, body := range skipped {
			checkRun(t, inBody(body, expression), args(1), 5, returned(0, 1, 2))
		}
	}
}

func inBody(body, expression string) string {
	return "array x 2; func f(a) { " + strings.ReplaceAll(body, "@", expression) + " } func g(a, b) { out 9; return 0; }"
}
