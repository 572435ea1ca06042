package parser_test

import (
	"slices"
	"strings"
	"testing"

	"fulling/api"
	"fulling/lexer"
	"fulling/parser"
)

func checkAccepted(t *testing.T, text string) {
	t.Helper()
	if _, err := parser.Parse(text); err != (api.Err{}) {
		t.Errorf("Parse(%.200q) = %v", text, err)
	}
}

// Promise 3.1: the errors of the scanner come first, wherever they are.

func TestErrorsOfTheScanner(t *testing.T) {
	for _, text := range []string{
		"07", "$", "x 07", "array 1 2; $", "func f() { return 0; } 1a", "func f() { return a b c; } # $\n 9223372036854775809", "array x 1; array x 18446744073709551616;",
		"abcdefghijklmnopq", "array abcdefghijklmnopq 1;", "array ; abcdefghijklmnopq", "func f() { return 0; }\x00", "func f() { return ä; }", "return 'a';", "\"", "x.y",
		strings.Repeat(" ", api.MaxText+1), strings.Repeat("x", api.MaxText+1), "$" + strings.Repeat(" ", api.MaxText), "func f() { return 0; }" + strings.Repeat("\n", api.MaxText),
	} {
		_, want := lexer.Scan(text)
		if want == (api.Err{}) {
			t.Fatalf("wrong test: the scanner accepts %q", text)
		}
		checkError(t, text, want.Why, want.At)
	}
	checkError(t, "x 07", api.ErrSyntax, 2)
	checkError(t, "func f() { return 0 } $", api.ErrSyntax, 22)
	checkError(t, "func abcdefghijklmnopq(", api.ErrLimit, 5)
	checkError(t, ") "+strings.Repeat(" ", api.MaxText), api.ErrLimit, api.MaxText)
}

func TestLongestTextsAndNames(t *testing.T) {
	declaration := "array abcdefghijklmnop 1;"
	checkProgram(t, declaration+strings.Repeat(" ", api.MaxText-len(declaration)), api.Program{Arrays: []api.Array{{Name: "abcdefghijklmnop", Len: 1}}})
	checkProgram(t, strings.Repeat("#", api.MaxText-len(declaration)-1)+"\n"+declaration, api.Program{Arrays: []api.Array{{Name: "abcdefghijklmnop", Len: 1}}})
	checkError(t, strings.Repeat(" ", api.MaxText-5)+"array", api.ErrSyntax, api.MaxText)
	checkError(t, strings.Repeat(" ", api.MaxText-1)+"x", api.ErrSyntax, api.MaxText-1)
}

// Promise 3.3: the token at which an error is reported.

func TestErrorsInDeclarations(t *testing.T) {
	for _, marked := range []string{
		"@x", "@1", "@;", "@{", "@return", "@var x;", "@-", "@arrays x 1;", "@Array x 1;", "array x 1; @;", "array x 1; @x", "array x 1; @}", "func f() { return 0; } @;", "func f() { return 0; } @}", "func f() { return 0; } @return",
		"array@", "array x@", "array x 2@", "array @1 2;", "array @;", "array x @;", "array x @x;", "array x 1 @2;", "array x 1@, y 2;", "array x@[3];", "array x @= 3;", "array x 1 @array y 1;", "array x 1 @func f() { return 0; }",
		"func@", "func f@", "func f(@", "func f(a@", "func f(a,@", "func f()@", "func f() var@", "func f() var x@", "func f() var x,@", "func f() {@", "func f() { return@", "func f() { return 0@", "func f() { return 0;@",
		"func @() { return 0; }", "func @1() { return 0; }", "func f @{ return 0; }", "func f @a) { return 0; }", "func f(@,) { return 0; }", "func f(@, a) { return 0; }", "func f(a,@) { return 0; }", "func f(a @b) { return 0; }", "func f(a, @1) { return 0; }", "func f(@1) { return 0; }", "func f(@(a)) { return 0; }",
		"func f() @return 0;", "func f() @; { return 0; }", "func f(a@; b) { return 0; }", "func f()@() { return 0; }", "func f() var @{ return 0; }", "func f() var @, x { return 0; }", "func f() var x,@{ return 0; }", "func f() var x @y { return 0; }", "func f() var x@; { return 0; }", "func f() var @(x) { return 0; }", "func f() var x @var y { return 0; }", "func f() var @1 { return 0; }", "func f @var x { return 0; }",
		"func f() { @}", "func f() { @{ } return 0; }", "func f() { return @; }", "func f() { return 0 @}", "func f() { return 0; @x = 1; }", "func f() { return 0; @return 0; }", "func f() { return 0; @; }", "func f() { return 0@, 1; }", "func f() { @func g() { return 0; } return 0; }", "func f() { @array x 1; return 0; }", "func f() { @var x; return 0; }",
	} {
		checkMarkedError(t, marked)
	}
}

func TestErrorsInStatements(t *testing.T) {
	for _, marked := range []string{
		"@;", "@1 = 2;", "@(x) = 2;", "@-x = 2;", "@= 2;", "@[1] = 2;", "x@;", "x @+ 1;", "x @x = 1;", "x @== 1;", "x = @;", "x = 1 @x = 2;", "x = 1@, 2;", "x = y @= 1;", "x@, y = 1;", "x = 1@) ;", "x = (1@;", "x = 1;@;", "x@();", "x @1;",
		"x[@] = 1;", "x[1 @= 1;", "x[1]@;", "x[1] @+ 1;", "x[1]@[2] = 3;", "x[1] @== 2;", "x[1] = @;", "x[1] = 2 @}", "x[1@, 2] = 3;", "x[1] = g@(1);",
		"x = g(@;", "x = g(1@;", "x = g(@,);", "x = g(1,@);", "x = g(1 @2);", "x = g(1) @return 1;", "x = g() @}", "x = g()@, 1;", "x = g(1)@);", "x = (g)@(1);", "x = 1@(2);", "x = y[1]@(2);", "x = g(x @= 1);", "x = -g@(1);",
		"if @1 { }", "if (@) { }", "if (1 @{ }", "if (1) @out 2;", "if (1) @;", "if (1) { @else { } }", "if (1) { } else @out 2;", "if (1) { } else @if (2) { }", "if (1) { } else @(2) { }", "if (1) { } else { } @else { }", "@else { }", "if (x @= 1) { }", "if (1@; 2) { }", "if (1) { }@;", "if (1) @(2) { }", "if (1) { @return 2; }", "if (1)@) { }", "x = 1; @else { }", "while (1) { } @else { }",
		"while @1 { }", "while (@) { }", "while (1 @{ }", "while (1) @x = 1;", "while (1) @;", "while (1) { }@;", "while (1) { @return 2; }", "while @: { }", "while @{ }",
		"out @;", "out 1@, 2;", "out 1 @out 2;", "out x @= 1;", "out @{ }", "out 1 @}",
		"trap @;", "trap @x;", "trap @-1;", "trap @(1);", "trap 1 @+ 1;", "trap 1@, 2;", "trap 1 @}", "trap @trap;",
	} {
		checkMarkedStatements(t, marked)
	}
}

// TestEndOfText checks that the position is the length of the text, whatever separators stand at its end.
func TestEndOfText(t *testing.T) {
	for _, text := range []string{"array", "array x", "array x 1", "func f(", "func f() {", "func f() { x", "func f() { x =", "func f() { x = g", "func f() { if (1) {", "func f() { return a ?", "func f() { return -", "func f() { return (1", "func f() { return 0;"} {
		for _, end := range []string{"", " ", "\n", " \t\r\n", "#", "# ; }", "\n# x\n", strings.Repeat("\n", 1000)} {
			checkError(t, text+end, api.ErrSyntax, len(text+end))
		}
	}
}

// Promise 3.3, against the recognizer.

// mixedTokens is a program with each declaration, statement, operator and kind of expression.
func mixedTokens() []string {
	return strings.Fields(`
array x 3 ;
func f ( a , b ) var c , d {
  c = a * ( b + 1 ) ? x [ a ] : - b ;
  d = g ( a , b ? 1 : 2 , ! c ) ;
  d = g ( ) ;
  x [ c % 3 | - 9223372036854775808 ] = d >= 2 ^ ~ - 1 & a != b ;
  if ( c == d ) { out c ; } else { while ( d > 0 ) { d = d - 1 >>> 1 >> 1 ; trap 4 ; } }
  if ( a ) { x [ 0 ] = ( a ) << 1 ; }
  return c < d / 2 <= 1 ;
}
func g ( ) { return - - 5 ; }
array y 1 ;`)
}

// allTokens lists all reserved words and symbols, names, and numbers on both sides of each limit.
func allTokens() []string {
	symbols := strings.Fields(">>> << >> <= >= == != + - * / % & | ^ ~ ! < > = ? : ; , ( ) { } [ ]")
	return slices.Concat(reservedWords(), symbols, []string{"x", "arrays", "0", "1000000", "1000001", "9223372036854775807", "9223372036854775808"})
}

func TestProgramsCutOff(t *testing.T) {
	tokens, r := mixedTokens(), newRecognizer()
	programs := 0
	for n := range len(tokens) + 1 {
		if n > 0 && !r.push(tokens[n-1]) {
			t.Fatalf("wrong test: token %d, %q, cannot follow", n-1, tokens[n-1])
		}
		r.compare(t, tokens[:n], n)
		if r.isProgram() {
			programs++
		}
	}
	if programs != 5 {
		t.Errorf("%d of the texts are programs", programs)
	}
}

func TestTokensRemovedAndDoubled(t *testing.T) {
	tokens, r := mixedTokens(), newRecognizer()
	for i, token := range tokens {
		r.compare(t, slices.Concat(tokens[:i], tokens[i+1:]), i)
		r.compare(t, slices.Concat(tokens[:i+1], tokens[i:]), i)
		r.push(token)
	}
}

func TestTokensReplacedAndInserted(t *testing.T) {
	tokens, r := mixedTokens(), newRecognizer()
	for i, token := range tokens {
		for _, other := range allTokens() {
			r.compare(t, slices.Concat(tokens[:i], []string{other}), i)
			r.compare(t, slices.Concat(tokens[:i], []string{other}, tokens[i+1:]), i)
			r.compare(t, slices.Concat(tokens[:i], []string{other}, tokens[i:]), i)
		}
		r.push(token)
	}
}

// TestShortSequences goes through all sequences of tokens that a start can be continued with, and through each token that ends them.
func TestShortSequences(t *testing.T) {
	for start, c := range map[string]struct {
		tokens string
		length int
	}{
		"":                                      {"array func x 1 1000001 ; ( ) { return", 6},
		"func f":                                {"( ) , x var { return 0", 7},
		"func f ( ) {":                          {"x = [ ] ( ) 1 ; , return", 7},
		"func f ( ) { if ( 1 )":                 {"if else { } out 1 ; return", 6},
		"func f ( ) { return":                   {"x 1 9223372036854775808 - ! ( ) [ ] ;", 6},
		"func f ( ) { return 1":                 {"x 1 ? : - > ( ) = ;", 7},
		"func f ( ) { return x [ x ? ( x ? x :": {"x ? : ( ) [ ] ;", 7},
	} {
		tokens, r := strings.Fields(start), newRecognizer()
		if r.pushAll(tokens) < len(tokens) {
			t.Fatalf("wrong test: %q is not the start of a program", start)
		}
		compareContinuations(t, r, tokens, strings.Fields(c.tokens), c.length)
	}
}

// compareContinuations compares tokens, which r holds, and all their continuations by up to length others.
func compareContinuations(t *testing.T, r *recognizer, tokens, others []string, length int) {
	r.compare(t, tokens, len(tokens))
	if length == 0 {
		return
	}
	for _, other := range others {
		continued := slices.Concat(tokens, []string{other})
		if !r.push(other) {
			r.compare(t, continued, len(tokens))
			continue
		}
		compareContinuations(t, r, continued, others, length-1)
		r.cut(len(tokens))
	}
}
