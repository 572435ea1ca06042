package interp_test

import (
	"slices"
	"strconv"
	"strings"
	"testing"

	"fulling/api"
	"fulling/checker"
	"fulling/interp"
	"fulling/testtrees"
)

const (
	smallest = -1 << 63
	largest  = 1<<63 - 1
)

// edges are words at which operations, bounds and conditions change their results.
var edges = []int64{0, 1, -1, 2, -2, 3, 7, -7, 63, 64, 65, -64, 1 << 31, 1 << 32, -1 << 32, largest, largest - 1, smallest, smallest + 1}

// returned, trapped and outOfFuel build outcomes. All fields that the chapter does not mention for them are zero.
func returned(value int64, out ...int64) api.Outcome {
	return api.Outcome{Kind: api.Returned, Value: value, Out: out}
}

func trapped(code int, out ...int64) api.Outcome {
	return api.Outcome{Kind: api.Trapped, Code: code, Out: out}
}

func outOfFuel(out ...int64) api.Outcome { return api.Outcome{Kind: api.OutOfFuel, Out: out} }

func equal(a, b api.Outcome) bool {
	return a.Kind == b.Kind && a.Code == b.Code && a.Value == b.Value && slices.Equal(a.Out, b.Out)
}

func args(list ...int64) []int64 { return list }

// checkProgram checks one run of the function f of a valid program.
func checkProgram(t *testing.T, what string, p api.Program, args []int64, fuel int, want api.Outcome) {
	t.Helper()
	if why := checker.Check(p); why != api.OK {
		t.Fatalf("wrong test: %.300q has the error %d", what, why)
	}
	if got := interp.Run(p, "f", args, fuel); !equal(got, want) {
		t.Errorf("%.300q: Run with %v and fuel %d = %.300v, want %.300v", what, args, fuel, got, want)
	}
}

// checkRun checks one run of the function f of a text.
func checkRun(t *testing.T, text string, args []int64, fuel int, want api.Outcome) {
	t.Helper()
	checkProgram(t, text, testtrees.MustParse(t, text), args, fuel, want)
}

// checkTrace checks runs with every amount of fuel that makes a difference, and with some that do not.
//
// The trace lists what the run does if it has enough fuel: T for a tick, a number for an output. The kind, code and value of the end are those of the run with enough fuel.
func checkTrace(t *testing.T, text string, args []int64, trace string, end api.Outcome) {
	t.Helper()
	p := testtrees.MustParse(t, text)
	ticks := strings.Count(trace, "T")
	for fuel := range ticks + 3 {
		checkProgram(t, text, p, args, fuel, cut(t, trace, end, fuel))
	}
	checkProgram(t, text, p, args, api.MaxFuel, cut(t, trace, end, api.MaxFuel))
}

// cut returns the outcome for the given fuel.
func cut(t *testing.T, trace string, end api.Outcome, fuel int) api.Outcome {
	t.Helper()
	var out []int64
	for _, event := range strings.Fields(trace) {
		if event == "T" {
			if fuel == 0 {
				return outOfFuel(out...)
			}
			fuel--
			continue
		}
		n, err := strconv.ParseInt(event, 10, 64)
		if err != nil {
			t.Fatalf("wrong test: the event %q", event)
		}
		out = append(out, n)
	}
	end.Out = out
	return end
}

func wordText(n int64) string { return strconv.FormatInt(n, 10) }

// repeatedTrace returns a trace that consists of n times the same events.
func repeatedTrace(n int, events string) string { return strings.Repeat(events+" ", n) }
