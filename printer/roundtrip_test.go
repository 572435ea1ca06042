package printer_test

import (
	"strings"
	"testing"

	"fulling/api"
	"fulling/lexer"
	"fulling/parser"
	"fulling/printer"
	"fulling/testtrees"
)

// Promise 5.3, and the form of the text, for programs that are made up.

// checkForm checks what the chapter says about the form of a text without printing the program: parsing must return the program, the parentheses must be as many as the chapter asks for, and the tokens must be separated as it says.
func checkForm(t *testing.T, p api.Program, text string) {
	t.Helper()
	checkRoundTrip(t, p)
	if got, want := strings.Count(text, "("), parenthesesOf(p); got != want {
		t.Errorf("%d parentheses instead of %d: %q", got, want, text)
	}
	tokens, err := lexer.Scan(text)
	if err.Why != api.OK {
		t.Fatalf("Scan(%q) = %v", text, err)
	}
	if want := layout(tokens); text != want {
		t.Errorf("Print = %q, want %q", text, want)
	}
}

// parenthesesOf counts those of expressions, calls, conditions and parameter lists.
func parenthesesOf(p api.Program) int {
	count := len(p.Funcs)
	for _, f := range p.Funcs {
		count += parenthesesOfBody(f.Body) + parenthesesOfExpr(f.Value)
	}
	return count
}

func parenthesesOfBody(list []api.Stmt) int {
	count := 0
	for _, s := range list {
		if s.Kind == api.StmtCall || s.Kind == api.StmtIf || s.Kind == api.StmtWhile {
			count++
		}
		count += parenthesesOfExpr(s.At) + parenthesesOfExpr(s.Value) + parenthesesOfBody(s.Then) + parenthesesOfBody(s.Else)
		for _, e := range s.Args {
			count += parenthesesOfExpr(e)
		}
	}
	return count
}

func parenthesesOfExpr(e api.Expr) int {
	count := 0
	for _, kid := range e.Kids {
		count += parenthesesOfExpr(kid)
		isOperand := e.Kind == api.ExprOp || e.Kind == api.ExprCond
		isCompound := kid.Kind == api.ExprOp || kid.Kind == api.ExprCond
		if isOperand && isCompound || e.Op == api.OpNeg && kid.Kind == api.ExprNum {
			count++
		}
	}
	return count
}

// layout puts the tokens of a program into lines. It decides by neighbouring tokens, without syntax trees.
func layout(tokens []api.Token) string {
	var text strings.Builder
	before, signs, level := "\n", map[int]bool{}, 0
	for i, token := range tokens {
		if token.Text == "}" {
			level--
		}
		signs[i] = token.Text == "-" && (i == 0 || !endsOperand(before, tokens[i-1].Kind))
		switch {
		case startsLine(before, token.Text):
			text.WriteString(strings.Repeat("  ", level))
		case before == "-" && signs[i-1], isTogether(before, token.Text):
		default:
			text.WriteString(" ")
		}
		text.WriteString(token.Text)
		if token.Text == "{" {
			level++
		}
		if endsLine(token.Text, i+1 < len(tokens) && tokens[i+1].Text == "else") {
			text.WriteString("\n")
		}
		before = token.Text
	}
	return text.String()
}

func startsLine(before, token string) bool {
	return before == "\n" || before == ";" || before == "{" || before == "}" && token != "else"
}

func endsLine(token string, elseFollows bool) bool {
	return token == ";" || token == "{" || token == "}" && !elseFollows
}

func isOneOf(token string, choices ...string) bool {
	for _, choice := range choices {
		if token == choice {
			return true
		}
	}
	return false
}

func isReserved(token string) bool {
	return isOneOf(token, "array", "func", "var", "return", "if", "else", "while", "out", "trap")
}

// endsOperand returns whether an operator behind this token has it as its left operand.
func endsOperand(token string, kind int) bool {
	return kind == api.TokenNumber || kind == api.TokenName && !isReserved(token) || isOneOf(token, ")", "]")
}

// isTogether returns whether no space separates two tokens of a line.
func isTogether(left, right string) bool {
	isName := left[0] == '_' || left[0] >= 'a' && left[0] <= 'z' || left[0] >= 'A' && left[0] <= 'Z'
	return isOneOf(left, "(", "[", "~") || isOneOf(right, ")", "]", "[", ",", ";") || right == "(" && isName && !isReserved(left)
}

func TestMadeUpPrograms(t *testing.T) {
	v, longest := testtrees.Inventor{Numbers: 8}, 0
	for i := range 6000 {
		p := v.Program()
		if i%3 != 0 {
			p = v.VariedProgram()
		}
		text := printer.Print(p)
		if len(text) > api.MaxText {
			t.Fatalf("wrong test: a text of %d bytes", len(text))
		}
		checkForm(t, p, text)
		longest = max(longest, len(text))
	}
	if longest < api.MaxText/5 {
		t.Errorf("the longest text has only %d bytes", longest)
	}
}

func TestMadeUpExpressions(t *testing.T) {
	v := testtrees.Inventor{Numbers: 9}
	v.Program()
	for i := range 20000 {
		p := api.Program{
			Arrays: []api.Array{{Name: "x", Len: 1}, {Name: "y", Len: 2}},
			Funcs:  []api.Func{{Name: "f", Params: []string{"a", "b"}, Value: v.Expr(1 + i%8)}},
		}
		if text := printer.Print(p); len(text) <= api.MaxText {
			checkForm(t, p, text)
		}
	}
}

// TestTextsThatAreCanonical prints programs from texts in other forms. The forms that mean the same have one text.
func TestTextsThatAreCanonical(t *testing.T) {
	want := "array x 2;\nfunc f(a) var b {\n  b = (a + 1) * 2;\n  if (b) {\n    out -1;\n  }\n  return 1 < x[b];\n}\n"
	for _, text := range []string{
		want,
		"array x 2;func f(a)var b{b=(a+1)*2;if(b){out -1;}return 1<x[b];}",
		"func f ( a ) var b { b = ( ( ( a ) + ( 1 ) ) ) * ( 2 ) ; if ( ( b ) ) { out - 1 ; } else { } return x [ ( b ) ] > 1 ; } array x 2 ;",
		"# a comment\r\nfunc f(a) var b {\r\n\tb = (a + 1) * 2; # another\r\n\tif (b) {\r\n\t\tout (-1);\r\n\t}\r\n\treturn (1 < (x[b]));\r\n}\r\narray x 2;\r\n",
	} {
		p, err := parser.Parse(text)
		if got := printer.Print(p); err.Why != api.OK || got != want {
			t.Errorf("%q is printed as %q, want %q", text, got, want)
		}
	}
}
