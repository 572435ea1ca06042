package parser_test

import (
	"cmp"
	"reflect"
	"slices"
	"strings"
	"testing"

	"fulling/api"
	"fulling/parser"
	"fulling/testtrees"
)

// The examples of the chapter.

func TestExamples(t *testing.T) {
	checkProgram(t, "func f() { return 2 - -3; }", api.Program{Funcs: []api.Func{{Name: "f", Value: testtrees.Op(api.OpSub, testtrees.Num(2), testtrees.Num(-3))}}})
	checkProgram(t, "func f() { return a > 1; }", api.Program{Funcs: []api.Func{{Name: "f", Value: testtrees.Op(api.OpLt, testtrees.Num(1), testtrees.Var("a"))}}})
	checkMarkedError(t, "func f() { x = f() @+ 1; return 0; }")
}

// Promise 3.1: declarations.

func TestTextsWithoutDeclarations(t *testing.T) {
	for _, text := range []string{"", " ", "\n", "\t\r\n  ", "# array x 1;", "# a\n#b\n\n"} {
		checkProgram(t, text, api.Program{})
	}
}

func TestArrays(t *testing.T) {
	checkProgram(t, "array x 3;", api.Program{Arrays: []api.Array{{Name: "x", Len: 3}}})
	checkProgram(t, "array\n_9 # c\n16\t;", api.Program{Arrays: []api.Array{{Name: "_9", Len: 16}}})
	checkProgram(t, "array b 1;array a 2;array b 0;", api.Program{Arrays: []api.Array{{Name: "b", Len: 1}, {Name: "a", Len: 2}, {Name: "b"}}})
}

func TestFunctionHeads(t *testing.T) {
	for text, want := range map[string]api.Func{
		"func f() { return 0; }":                           {Name: "f"},
		"func f(){return 0;}":                              {Name: "f"},
		"func g(a) { return 0; }":                          {Name: "g", Params: []string{"a"}},
		"func g(b, a, c) { return 0; }":                    {Name: "g", Params: []string{"b", "a", "c"}},
		"func f() var x { return 0; }":                     {Name: "f", Locals: []string{"x"}},
		"func f() var z, y, x { return 0; }":               {Name: "f", Locals: []string{"z", "y", "x"}},
		"func f(a, b) var c, d { return 0; }":              {Name: "f", Params: []string{"a", "b"}, Locals: []string{"c", "d"}},
		"func f(f, f) var f, f { return 0; }":              {Name: "f", Params: []string{"f", "f"}, Locals: []string{"f", "f"}},
		"func f # (\n ( # a\n a # ,\n , b ) { return 0; }": {Name: "f", Params: []string{"a", "b"}},
	} {
		want.Value = testtrees.Num(0)
		checkProgram(t, text, api.Program{Funcs: []api.Func{want}})
	}
}

func TestDeclarationsInAnyOrder(t *testing.T) {
	x, y := api.Array{Name: "x", Len: 1}, api.Array{Name: "y", Len: 2}
	f, g := api.Func{Name: "f", Value: testtrees.Num(1)}, api.Func{Name: "g", Value: testtrees.Num(2)}
	texts := map[string]string{"x": "array x 1;", "y": "array y 2;", "f": "func f() { return 1; }", "g": "func g() { return 2; }"}
	for order, want := range map[string]api.Program{
		"x y f g": {Arrays: []api.Array{x, y}, Funcs: []api.Func{f, g}},
		"f g x y": {Arrays: []api.Array{x, y}, Funcs: []api.Func{f, g}},
		"g y f x": {Arrays: []api.Array{y, x}, Funcs: []api.Func{g, f}},
		"y g x f": {Arrays: []api.Array{y, x}, Funcs: []api.Func{g, f}},
		"f x g y": {Arrays: []api.Array{x, y}, Funcs: []api.Func{f, g}},
		"f f x f": {Arrays: []api.Array{x}, Funcs: []api.Func{f, f, f}},
		"g f":     {Funcs: []api.Func{g, f}},
	} {
		var text string
		for name := range strings.FieldsSeq(order) {
			text += texts[name]
		}
		checkProgram(t, text, want)
	}
}

func TestNum(t *testing.T) {
	for _, n := range []struct {
		text  string
		value int
	}{{"0", 0}, {"1", 1}, {"17", 17}, {"999999", 999999}, {"1000000", 1000000}} {
		checkProgram(t, "array x "+n.text+";", api.Program{Arrays: []api.Array{{Name: "x", Len: n.value}}})
		checkStatements(t, "trap "+n.text+";", api.Stmt{Kind: api.StmtTrap, N: n.value})
	}
	// 4294967297 is 1 for a parser that keeps 32 bits only.
	for _, marked := range []string{
		"@1000001", "@1000010", "@2000000", "@10000000", "@2147483648", "@4294967297", "@9223372036854775807", "@9223372036854775808",
		"@-1", "@-0", "@(1)", "@x", "1 @+ 1", "1 @2", "@trap", "@",
	} {
		checkMarkedError(t, "array x "+marked+";")
		checkMarkedStatements(t, "trap "+marked+";")
	}
}

// Promise 3.1: statements.

func TestEachStatement(t *testing.T) {
	checkStatements(t, "")
	checkStatements(t, "x = 5;", api.Stmt{Kind: api.StmtAssign, Name: "x", Value: testtrees.Num(5)})
	checkStatements(t, "x = y;", api.Stmt{Kind: api.StmtAssign, Name: "x", Value: testtrees.Var("y")})
	checkStatements(t, "x = y[z];", api.Stmt{Kind: api.StmtAssign, Name: "x", Value: testtrees.Element("y", testtrees.Var("z"))})
	checkStatements(t, "x = (y);", api.Stmt{Kind: api.StmtAssign, Name: "x", Value: testtrees.Var("y")})
	checkStatements(t, "x = g();", api.Stmt{Kind: api.StmtCall, Name: "x", To: "g"})
	checkStatements(t, "x = g # c\n ( 1 );", api.Stmt{Kind: api.StmtCall, Name: "x", To: "g", Args: []api.Expr{testtrees.Num(1)}})
	checkStatements(t, "x = x(y, 1 + 2, (3), -4);", api.Stmt{Kind: api.StmtCall, Name: "x", To: "x", Args: []api.Expr{testtrees.Var("y"), testtrees.Op(api.OpAdd, testtrees.Num(1), testtrees.Num(2)), testtrees.Num(3), testtrees.Num(-4)}})
	checkStatements(t, "x[y] = z;", api.Stmt{Kind: api.StmtStore, Name: "x", At: testtrees.Var("y"), Value: testtrees.Var("z")})
	checkStatements(t, "x[a ? 1 : 2] = b ? 3 : 4;", api.Stmt{Kind: api.StmtStore, Name: "x", At: testtrees.Cond(testtrees.Var("a"), testtrees.Num(1), testtrees.Num(2)), Value: testtrees.Cond(testtrees.Var("b"), testtrees.Num(3), testtrees.Num(4))})
	checkStatements(t, "x[y[1]] = y[2];", api.Stmt{Kind: api.StmtStore, Name: "x", At: testtrees.Element("y", testtrees.Num(1)), Value: testtrees.Element("y", testtrees.Num(2))})
	checkStatements(t, "out x;", api.Stmt{Kind: api.StmtOut, Value: testtrees.Var("x")})
	checkStatements(t, "out(x);", api.Stmt{Kind: api.StmtOut, Value: testtrees.Var("x")})
	checkStatements(t, "out-1;", api.Stmt{Kind: api.StmtOut, Value: testtrees.Num(-1)})
	checkStatements(t, "trap 3;", api.Stmt{Kind: api.StmtTrap, N: 3})
}

func TestCompoundStatements(t *testing.T) {
	one, two, three := api.Stmt{Kind: api.StmtOut, Value: testtrees.Num(1)}, api.Stmt{Kind: api.StmtOut, Value: testtrees.Num(2)}, api.Stmt{Kind: api.StmtTrap, N: 3}
	ifX := func(then, otherwise []api.Stmt) api.Stmt {
		return api.Stmt{Kind: api.StmtIf, Value: testtrees.Var("x"), Then: then, Else: otherwise}
	}
	whileX := func(body ...api.Stmt) api.Stmt {
		return api.Stmt{Kind: api.StmtWhile, Value: testtrees.Var("x"), Then: body}
	}
	checkStatements(t, "if (x) { }", ifX(nil, nil))
	checkStatements(t, "if (x) { } else { }", ifX(nil, nil))
	checkStatements(t, "if (x) { out 1; }", ifX([]api.Stmt{one}, nil))
	checkStatements(t, "if (x) { } else { out 1; }", ifX(nil, []api.Stmt{one}))
	checkStatements(t, "if (x) { out 1; out 2; } else { trap 3; out 2; }", ifX([]api.Stmt{one, two}, []api.Stmt{three, two}))
	checkStatements(t, "if (x) { if (x) { out 1; } } else { out 2; }", ifX([]api.Stmt{ifX([]api.Stmt{one}, nil)}, []api.Stmt{two}))
	checkStatements(t, "if (x) { if (x) { out 1; } else { out 2; } }", ifX([]api.Stmt{ifX([]api.Stmt{one}, []api.Stmt{two})}, nil))
	checkStatements(t, "if (x) { } else { if (x) { out 1; } else { out 2; } }", ifX(nil, []api.Stmt{ifX([]api.Stmt{one}, []api.Stmt{two})}))
	checkStatements(t, "while (x) { }", whileX())
	checkStatements(t, "while (x) { out 1; trap 3; }", whileX(one, three))
	checkStatements(t, "while (x) { while (x) { out 1; } out 2; } trap 3;", whileX(whileX(one), two), three)
	checkStatements(t, "out 1; if (x) { out 2; } trap 3; while (x) { } out 1;", one, ifX([]api.Stmt{two}, nil), three, whileX(), one)
	checkStatements(t, "if (1 + x ? 2 : 3) { } while ((x)) { }",
		api.Stmt{Kind: api.StmtIf, Value: testtrees.Cond(testtrees.Op(api.OpAdd, testtrees.Num(1), testtrees.Var("x")), testtrees.Num(2), testtrees.Num(3))}, whileX())
}

// Promise 3.1: reserved words.

func TestReservedWordsAreNoNames(t *testing.T) {
	for _, word := range reservedWords() {
		for _, marked := range []string{
			"array @W 1;", "func @W() { return 0; }", "func f(@W) { return 0; }", "func f(a, @W) { return 0; }",
			"func f() var @W { return 0; }", "func f() var a, @W { return 0; }",
		} {
			checkMarkedError(t, strings.ReplaceAll(marked, "W", word))
		}
		for _, marked := range []string{"x = @W;", "x = @W();", "x = y + @W;", "x = @W[1];", "x = g(@W);", "x[@W] = 1;", "out @W;", "out -@W;", "if (@W) { }"} {
			checkMarkedStatements(t, strings.ReplaceAll(marked, "W", word))
		}
		checkMarkedExpression(t, "@"+word)
	}
	// As the name that is changed: some words start something else, so that the error is at the token behind them.
	for _, word := range []string{"array", "func", "var", "else"} {
		checkMarkedStatements(t, "@"+word+" = 1;")
		checkMarkedStatements(t, "@"+word+"[1] = 1;")
	}
	for _, word := range []string{"return", "if", "while", "out", "trap"} {
		checkMarkedStatements(t, word+" @= 1;")
		checkMarkedStatements(t, word+" @[1] = 1;")
	}
}

func TestNamesLikeReservedWords(t *testing.T) {
	for _, word := range reservedWords() {
		for _, name := range []string{word + "s", word + "_", "_" + word, word + "0", "x" + word, word[1:], word[:len(word)-1], strings.ToUpper(word), strings.ToUpper(word[:1]) + word[1:]} {
			checkIsName(t, name)
		}
	}
}

func TestWordsOfOtherLanguagesAreNames(t *testing.T) {
	for name := range strings.FieldsSeq("main fn fun function def let const int long void bool true false nil null not and or xor for do loop until end then elif elseif switch case break continue goto begin print output halt exit arr vars params call import in is") {
		checkIsName(t, name)
	}
}

// checkIsName checks each place that takes a name.
func checkIsName(t *testing.T, name string) {
	t.Helper()
	checkProgram(t, "array "+name+" 1;", api.Program{Arrays: []api.Array{{Name: name, Len: 1}}})
	text := "func N(N) var N { N = N; N = N(N); N[N] = N[N]; return N; }"
	checkProgram(t, strings.ReplaceAll(text, "N", name), api.Program{Funcs: []api.Func{{
		Name: name, Params: []string{name}, Locals: []string{name},
		Body: []api.Stmt{
			{Kind: api.StmtAssign, Name: name, Value: testtrees.Var(name)},
			{Kind: api.StmtCall, Name: name, To: name, Args: []api.Expr{testtrees.Var(name)}},
			{Kind: api.StmtStore, Name: name, At: testtrees.Var(name), Value: testtrees.Element(name, testtrees.Var(name))},
		}, Value: testtrees.Var(name),
	}}})
}

// Promise 3.1: what package checker rejects is none of the parser's business.

func TestNamesAreNotChecked(t *testing.T) {
	checkProgram(t, "array x 0; array x 1000000; func x(x, x) var x { x = y; x = z(); y[1] = y; return z[w]; } func x() { return 0; }", api.Program{
		Arrays: []api.Array{{Name: "x"}, {Name: "x", Len: 1000000}},
		Funcs: []api.Func{{Name: "x", Params: []string{"x", "x"}, Locals: []string{"x"}, Body: []api.Stmt{
			{Kind: api.StmtAssign, Name: "x", Value: testtrees.Var("y")},
			{Kind: api.StmtCall, Name: "x", To: "z"},
			{Kind: api.StmtStore, Name: "y", At: testtrees.Num(1), Value: testtrees.Var("y")},
		}, Value: testtrees.Element("z", testtrees.Var("w"))}, {Name: "x", Value: testtrees.Num(0)}},
	})
}

func TestCountsAreNotLimited(t *testing.T) {
	repeat := func(part string, n int) string { return strings.Repeat(part, n) }
	const many = 900
	checkProgram(t, repeat("array x 7;", many), api.Program{Arrays: slices.Repeat([]api.Array{{Name: "x", Len: 7}}, many)})
	checkProgram(t, repeat("func f(){return 0;}", many), api.Program{Funcs: slices.Repeat([]api.Func{{Name: "f", Value: testtrees.Num(0)}}, many)})
	checkProgram(t, "func f(a"+repeat(", a", many)+") var b"+repeat(",b", many)+" { return 0; }", api.Program{Funcs: []api.Func{{
		Name: "f", Params: slices.Repeat([]string{"a"}, many+1), Locals: slices.Repeat([]string{"b"}, many+1), Value: testtrees.Num(0)}}})
	checkStatements(t, repeat("x = 0;", many), slices.Repeat([]api.Stmt{{Kind: api.StmtAssign, Name: "x", Value: testtrees.Num(0)}}, many)...)
	checkStatements(t, repeat("while (1) { }", many), slices.Repeat([]api.Stmt{{Kind: api.StmtWhile, Value: testtrees.Num(1)}}, many)...)
	checkStatements(t, "x = g(1"+repeat(", 1", many)+");", api.Stmt{Kind: api.StmtCall, Name: "x", To: "g", Args: slices.Repeat([]api.Expr{testtrees.Num(1)}, many+1)})
}

// R1, R2 and R4.

const mixedProgram = `
array x 3; # cells
func f(a, b) var c, d {
  c = a * (b + 1) ? x[a] : -b;
  d = g(a, b ? 1 : 2, !c);
  x[c % 3] = d >= 2;
  if (c == d) { out c; } else { while (d > 0) { d = d - 1; x[0] = d; } trap 4; }
  d = g();
  return c ^ d;
}
array y 1; func g() { return - -9223372036854775808; }
func h(a, b, c, d, e) var x, y, z {
  out 1; if (a) { out 2; out 3; out 4; } else { out 5; } out 6;
  x = h(1, 2, 3, 4, 5); while (a) { out 7; out 8; out 9; } out 10;
  return 0;
}
func i(a, b, c) var x { return 0; }
array z 1;
`

// memory collects the memory of all slices in v with their full capacity, as pairs of addresses.
func memory(v reflect.Value) [][2]uintptr {
	var result [][2]uintptr
	switch v.Kind() {
	case reflect.Struct:
		for i := range v.NumField() {
			result = append(result, memory(v.Field(i))...)
		}
	case reflect.Slice:
		if v.Cap() > 0 {
			start := v.Pointer()
			result = append(result, [2]uintptr{start, start + uintptr(v.Cap())*v.Type().Elem().Size()})
		}
		for i := range v.Len() {
			result = append(result, memory(v.Index(i))...)
		}
	}
	return result
}

func TestSlicesOfResultsShareNoMemory(t *testing.T) {
	first, err := parser.Parse(mixedProgram)
	if err != (api.Err{}) {
		t.Fatal(err)
	}
	second, _ := parser.Parse(mixedProgram)
	parts := append(memory(reflect.ValueOf(first)), memory(reflect.ValueOf(second))...)
	slices.SortFunc(parts, func(a, b [2]uintptr) int { return cmp.Compare(a[0], b[0]) })
	for i := 1; i < len(parts); i++ {
		if parts[i][0] < parts[i-1][1] {
			t.Fatal("two slices share memory")
		}
	}
	if len(parts) < 60 {
		t.Errorf("only %d slices in the results", len(parts))
	}
}

func TestResultsAreEqualForEqualTexts(t *testing.T) {
	first, _ := parser.Parse(mixedProgram)
	_, err := parser.Parse("array")
	second, _ := parser.Parse(mixedProgram)
	if !testtrees.EqualPrograms(first, second) || len(first.Funcs) != 4 || err == (api.Err{}) {
		t.Errorf("%+v and %+v, %v", first, second, err)
	}
}
