package testtrees

import (
	"fulling/api"
	"fulling/parser"
)

// Test is the part of a *testing.T that MustParse needs.
type Test interface {
	Helper()
	Fatalf(format string, args ...any)
}

// MustParse returns the tree of a text that the parser accepts.
func MustParse(t Test, text string) api.Program {
	t.Helper()
	p, err := parser.Parse(text)
	if err.Why != api.OK {
		t.Fatalf("wrong test: Parse(%.200q) = %v", text, err)
	}
	return p
}
