package parser_test

import (
	"slices"
	"strings"
	"testing"

	"fulling/api"
	"fulling/parser"
	"fulling/testtrees"
)

func checkProgram(t *testing.T, text string, want api.Program) {
	t.Helper()
	got, err := parser.Parse(text)
	if !testtrees.EqualPrograms(got, want) || err != (api.Err{}) {
		t.Errorf("Parse(%.200q) = %+v, %v, want %+v", text, got, err, want)
	}
}

// checkError also checks that no part of the program comes with an error (R3).
func checkError(t *testing.T, text string, why api.Errno, at int) {
	t.Helper()
	got, err := parser.Parse(text)
	if want := (api.Err{Why: why, At: at}); !testtrees.EqualPrograms(got, api.Program{}) || err != want {
		t.Errorf("Parse(%.200q) = %+v, %v, want %v", text, got, err, want)
	}
}

// checkMarkedError takes a text in which "@" marks the place of the error.
func checkMarkedError(t *testing.T, marked string) {
	t.Helper()
	before, after, found := strings.Cut(marked, "@")
	if !found {
		t.Fatalf("wrong test: no mark in %q", marked)
	}
	checkError(t, before+after, api.ErrSyntax, len(before))
}

// inFunction returns the text of a function with the given statements, and inReturn that of one which returns the given expression.
func inFunction(statements string) string { return "func f() { " + statements + " return 0; }" }

func inReturn(expression string) string { return "func f() { return " + expression + "; }" }

func checkStatements(t *testing.T, statements string, want ...api.Stmt) {
	t.Helper()
	checkProgram(t, inFunction(statements), api.Program{Funcs: []api.Func{{Name: "f", Body: want, Value: testtrees.Num(0)}}})
}

func checkExpression(t *testing.T, expression string, want api.Expr) {
	t.Helper()
	checkProgram(t, inReturn(expression), api.Program{Funcs: []api.Func{{Name: "f", Value: want}}})
}

// checkMarkedStatements and checkMarkedExpression take "@" as checkMarkedError does.
func checkMarkedStatements(t *testing.T, statements string) {
	t.Helper()
	checkMarkedError(t, inFunction(statements))
}

func checkMarkedExpression(t *testing.T, expression string) {
	t.Helper()
	checkMarkedError(t, inReturn(expression))
}

func reservedWords() []string {
	return []string{"array", "func", "var", "return", "if", "else", "while", "out", "trap"}
}

// operatorLevels lists the symbols of the binary operators, from the lowest precedence to the highest, as 3.2 does.
func operatorLevels() [][]string {
	return [][]string{{"|"}, {"^"}, {"&"}, {"==", "!="}, {"<", "<=", ">", ">="}, {"<<", ">>", ">>>"}, {"+", "-"}, {"*", "/", "%"}}
}

func binarySymbols() []string { return slices.Concat(operatorLevels()...) }

// levelOf returns the place of the symbol's level in operatorLevels, beginning with 1.
func levelOf(symbol string) int {
	return 1 + slices.IndexFunc(operatorLevels(), func(level []string) bool { return slices.Contains(level, symbol) })
}

// binary returns the node of a binary operator for its operands in the order of the text.
func binary(symbol string, left, right api.Expr) api.Expr {
	switch symbol {
	case ">":
		return testtrees.Op(api.OpLt, right, left)
	case ">=":
		return testtrees.Op(api.OpLe, right, left)
	}
	return testtrees.Op(map[string]int{
		"|": api.OpOr, "^": api.OpXor, "&": api.OpAnd, "==": api.OpEq, "!=": api.OpNe, "<": api.OpLt, "<=": api.OpLe,
		"<<": api.OpShl, ">>": api.OpSar, ">>>": api.OpShr, "+": api.OpAdd, "-": api.OpSub, "*": api.OpMul, "/": api.OpDiv, "%": api.OpRem,
	}[symbol], left, right)
}
