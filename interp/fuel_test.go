package interp_test

import (
	"testing"

	"fulling/api"
)

// Promise 6.3: ticks. Each program below runs with every amount of fuel, so that it runs out at each tick.

func TestTicksOfLoops(t *testing.T) {
	// No tick if the condition is 0 at once.
	checkTrace(t, "func f(a) { while (a) { out 1; } out 2; return 3; }", args(0), "2", returned(3))
	// A tick before each body, none after the last one.
	checkTrace(t, "func f(a) { while (a) { out a; a = a - 1; } out 9; return a; }", args(3), "T 3 T 2 T 1 9", returned(0))
	for _, n := range []int64{1, -1, largest, smallest} {
		checkTrace(t, "func f(a) { while (a) { out a; a = 0; } return 3; }", args(n), "T "+wordText(n), returned(3))
	}
	// A body that traps has ticked.
	checkTrace(t, "func f(a) { while (a) { out a; trap 3; } return 0; }", args(1), "T 1", trapped(19))
	checkTrace(t, "func f(a) { while (a) { a = 1 / 0; } return 0; }", args(1), "T", trapped(api.TrapDiv))
	// The condition sees what the body changed, also in arrays.
	checkTrace(t, "array x 2; func f() { x[1] = 3; while (x[1] - x[0]) { x[0] = x[0] + 1; out x[0]; } return x[0]; }", nil, "T 1 T 2 T 3", returned(3))
}

// TestConditionsThatTrap: the condition is evaluated before the first tick and after each body.
func TestConditionsThatTrap(t *testing.T) {
	checkTrace(t, "func f(a) { out 1; while (1 / a) { out 2; } return 0; }", args(0), "1", trapped(api.TrapDiv))
	checkTrace(t, "array x 2; func f(a) { while (x[a]) { out 2; } return 0; }", args(2), "", trapped(api.TrapIndex))
	checkTrace(t, "func f(a) { while (6 % a + 1) { out a; a = a - 1; } return 0; }", args(3), "T 3 T 2 T 1", trapped(api.TrapDiv))
	checkTrace(t, "array x 3; func f(a) { x[0] = 1; x[1] = 1; x[2] = 1; while (x[a]) { out a; a = a + 1; } return 0; }", args(0), "T 0 T 1 T 2", trapped(api.TrapIndex))
	// Evaluated after the body, it traps although no fuel is left.
	checkRun(t, "func f(a) { while (1 / a) { a = 0; } return 0; }", args(1), 1, trapped(api.TrapDiv))
	checkRun(t, "func f(a) { while (1 / a) { a = 0; } return 0; }", args(1), 0, outOfFuel())
}

func TestTicksOfNestedLoops(t *testing.T) {
	checkTrace(t, "func f(a) var b { while (a) { b = a; while (b) { out a * 10 + b; b = b - 1; } a = a - 1; out a; } return a; }", args(3),
		"T T 33 T 32 T 31 2 T T 22 T 21 1 T T 11 0", returned(0))
	// An inner loop without iterations does not tick, nor do branches.
	checkTrace(t, "func f(a) { while (a) { while (0) { } if (a > 1) { out a; } else { out -a; } while (a > 5) { a = 1; } a = a - 1; } return a; }", args(3), "T 3 T 2 T -1", returned(0))
}

func TestTicksOfCalls(t *testing.T) {
	// One tick for a call, before the callee runs.
	checkTrace(t, "func f() var a { out 1; a = g(); out 4; return a; } func g() { out 2; return 3; }", nil, "1 T 2 4", returned(3))
	// The first function does not tick.
	checkTrace(t, "func f() { out 1; return 2; }", nil, "1", returned(2))
	// The arguments come before the tick.
	checkTrace(t, "func f(a) { out 1; a = g(1 / a); return a; } func g(a) { out 2; return a; }", args(0), "1", trapped(api.TrapDiv))
	checkTrace(t, "array x 2; func f(a) { a = g(3, x[a]); return a; } func g(a, b) { return a; }", args(2), "", trapped(api.TrapIndex))
	// The callee's statements and value come after it.
	checkTrace(t, "func f(a) { a = g(a); return a; } func g(a) { return 1 / a; }", args(0), "T", trapped(api.TrapDiv))
	checkTrace(t, "func f(a) { a = g(a); return a; } func g(a) { trap 1; return a; }", args(0), "T", trapped(17))
}

// TestSharedFuel: what a callee uses is missing in its caller, and the other way round.
func TestSharedFuel(t *testing.T) {
	checkTrace(t, "func f(a) var r { while (a) { out a; r = g(a); a = a - 1; } r = g(2); out 100; return r; } func g(n) { while (n) { out 10 * n; n = n - 1; } return 7; }", args(2),
		"T 2 T T 20 T 10 T 1 T T 10 T T 20 T 10 100", returned(7))
	checkTrace(t, "func f(n) var r { while (n > 0) { n = n - 1; out n; r = f(n); out 10 + n; } return r + n; }", args(3),
		"T 2 T T 1 T T 0 T 10 11 T 0 T 10 12 T 1 T T 0 T 10 11 T 0 T 10", returned(0))
}
