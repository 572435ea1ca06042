package printer_test

import (
	"fmt"
	"reflect"
	"strings"
	"testing"

	"fulling/api"
	"fulling/printer"
	"fulling/testtrees"
)

// Promise 5.1: arrays and functions.

func TestEmptyProgram(t *testing.T) {
	checkPrint(t, api.Program{}, "")
	checkPrint(t, api.Program{Arrays: []api.Array{}, Funcs: []api.Func{}}, "")
}

func TestArrays(t *testing.T) {
	for length := 1; length <= api.MaxLen; length++ {
		checkPrint(t, api.Program{Arrays: []api.Array{{Name: "x", Len: length}}}, fmt.Sprintf("array x %d;\n", length))
	}
	checkPrint(t, testtrees.MustParse(t, "array z 3; array a 16; array _ 1; array abcdefghijklmnop 10;"), "array z 3;\narray a 16;\narray _ 1;\narray abcdefghijklmnop 10;\n")
}

// TestLineOfFunction prints functions without statements, with each number of parameters and of local variables.
func TestLineOfFunction(t *testing.T) {
	params := []string{"a", "b", "c2", "_", "E", "abcdefghijklmnop"}
	paramLists := []string{"()", "(a)", "(a, b)", "(a, b, c2)", "(a, b, c2, _)", "(a, b, c2, _, E)", "(a, b, c2, _, E, abcdefghijklmnop)"}
	locals := []string{"z", "y", "x_", "w", "v", "u", "t", "s"}
	localLists := []string{
		"", "var z ", "var z, y ", "var z, y, x_ ", "var z, y, x_, w ", "var z, y, x_, w, v ", "var z, y, x_, w, v, u ", "var z, y, x_, w, v, u, t ", "var z, y, x_, w, v, u, t, s ",
	}
	for i, paramList := range paramLists {
		for j, localList := range localLists {
			f := api.Func{Name: "name", Params: params[:i], Locals: locals[:j], Value: testtrees.Num(7)}
			checkPrint(t, api.Program{Funcs: []api.Func{f}}, "func name"+paramList+" "+localList+"{\n  return 7;\n}\n")
		}
	}
}

// TestArraysComeFirst has texts in which functions precede arrays.
func TestArraysComeFirst(t *testing.T) {
	checkPrint(t, testtrees.MustParse(t, "func f(){return 0;}array x 3;"), "array x 3;\nfunc f() {\n  return 0;\n}\n")
	checkPrint(t, testtrees.MustParse(t, "array b 1; func g(){return a[0];} array a 2; func f(){return b[0];} array c 3;"), lines(
		"array b 1;", "array a 2;", "array c 3;", "func g() {", "  return a[0];", "}", "func f() {", "  return b[0];", "}",
	))
}

func TestManyFunctions(t *testing.T) {
	var p api.Program
	want := ""
	for i := range api.MaxArrays {
		name := fmt.Sprint("x", api.MaxArrays-i)
		p.Arrays = append(p.Arrays, api.Array{Name: name, Len: i + 1})
		want += fmt.Sprintf("array %s %d;\n", name, i+1)
	}
	for i := range api.MaxFuncs {
		name := fmt.Sprint("f", api.MaxFuncs-i)
		p.Funcs = append(p.Funcs, api.Func{Name: name, Body: body(testtrees.Trap(i)), Value: testtrees.Num(int64(-i))})
		want += fmt.Sprintf("func %s() {\n  trap %d;\n  return %d;\n}\n", name, i, -i)
	}
	checkPrint(t, p, want)
}

// TestFunctionNamedLikeOthers has functions with the names of an array and of variables, which is no conflict.
func TestFunctionNamedLikeOthers(t *testing.T) {
	checkPrint(t, testtrees.MustParse(t, "func x(a,f)var b{a=x(x[f],b);b=b();return a;}func b(){return x[1];}array x 2;"), lines(
		"array x 2;", "func x(a, f) var b {", "  a = x(x[f], b);", "  b = b();", "  return a;", "}", "func b() {", "  return x[1];", "}",
	))
}

// The chapter's table of examples.

func TestExampleOfTheChapter(t *testing.T) {
	checkPrint(t, testtrees.MustParse(t, "array x 3; func f(){return -(5)+x[1];}"), lines("array x 3;", "func f() {", "  return (-(5)) + x[1];", "}"))
}

// TestProgramWithEverything prints one program with all kinds of statements and expressions.
func TestProgramWithEverything(t *testing.T) {
	p := testtrees.MustParse(t, `# a comment
		func main(n, m) var i, sum { i = n > 3 ? n : -m; sum = 0;
			while (!(i >= 10)) { i = i + 1; if (i % 2) { sum = add(sum, data[i]); out sum; } else { if (sum) { trap 5; } else { } }
				while (i) { i = i - 1; } }
			data[i & 7] = ~sum; sum = zero();
			return i ? sum : data[-1] - -1; }
		array data 8;
		func add(a, b) { return a + b; }
		array more 16;
		func zero() { return 0; }`)
	checkPrint(t, p, lines(
		"array data 8;",
		"array more 16;",
		"func main(n, m) var i, sum {",
		"  i = (3 < n) ? n : (-m);",
		"  sum = 0;",
		"  while ((10 <= i) == 0) {",
		"    i = i + 1;",
		"    if (i % 2) {",
		"      sum = add(sum, data[i]);",
		"      out sum;",
		"    } else {",
		"      if (sum) {",
		"        trap 5;",
		"      }",
		"    }",
		"    while (i) {",
		"      i = i - 1;",
		"    }",
		"  }",
		"  data[i & 7] = ~sum;",
		"  sum = zero();",
		"  return i ? sum : (data[-1] - -1);",
		"}",
		"func add(a, b) {",
		"  return a + b;",
		"}",
		"func zero() {",
		"  return 0;",
		"}",
	))
}

// R2 and R4: Print changes neither its argument nor the unused capacity of slices in it, and repeats its answers. Nil and empty slices are equivalent.

func TestArgumentIsNotChanged(t *testing.T) {
	const text = "array x 2; array y 3; func f(a, b) var c { if (a) { b = x[1]; out b; } else { while (b) { trap 3; } } c = f(a, b ? 1 : ~c); return c; } func g() { return 0; }"
	programs := []api.Program{testtrees.MustParse(t, text), testtrees.MustParse(t, text)}
	for i := range programs {
		p := &programs[i]
		p.Arrays = append(p.Arrays, api.Array{Name: "spare", Len: 7})[:2]
		p.Funcs = append(p.Funcs, api.Func{Name: "spare"})[:2]
		f := &p.Funcs[0]
		f.Params, f.Locals, f.Body = append(f.Params, "spare")[:2], append(f.Locals, "spare")[:1], append(f.Body, testtrees.Trap(99))[:2]
		call := &f.Body[1]
		call.Args = append(call.Args, testtrees.Num(99))[:2]
	}
	first := printer.Print(programs[0])
	for range 3 {
		if again := printer.Print(programs[0]); again != first || first == "" {
			t.Errorf("Print = %q, and then %q", first, again)
		}
	}
	for i := range programs {
		p := &programs[i]
		p.Arrays, p.Funcs = p.Arrays[:3], p.Funcs[:3]
		f := &p.Funcs[0]
		f.Params, f.Locals, f.Body, f.Body[1].Args = f.Params[:3], f.Locals[:2], f.Body[:3], f.Body[1].Args[:3]
	}
	if !reflect.DeepEqual(programs[0], programs[1]) {
		t.Error("Print changes its argument")
	}
}

func TestEmptySlices(t *testing.T) {
	num := api.Expr{Kind: api.ExprNum, N: 3, Kids: []api.Expr{}}
	empty := api.Stmt{Then: []api.Stmt{}, Else: []api.Stmt{}, Args: []api.Expr{}, At: api.Expr{Kids: []api.Expr{}}}
	branch, loop, call := empty, empty, empty
	branch.Kind, branch.Value = api.StmtIf, num
	loop.Kind, loop.Value = api.StmtWhile, num
	call.Kind, call.Name, call.To = api.StmtCall, "a", "f"
	f := api.Func{Name: "f", Params: []string{}, Locals: []string{"a"}, Body: body(branch, loop, call), Value: num}
	g := api.Func{Name: "g", Params: []string{}, Locals: []string{}, Body: []api.Stmt{}, Value: num}
	checkPrint(t, api.Program{Arrays: []api.Array{}, Funcs: []api.Func{f, g}}, lines(
		"func f() var a {", "  if (3) {", "  }", "  while (3) {", "  }", "  a = f();", "  return 3;", "}", "func g() {", "  return 3;", "}",
	))
}

// Promise 5.1: no text for a program that Check does not accept.

func TestInvalidPrograms(t *testing.T) {
	for why, texts := range map[api.Errno][]string{
		api.ErrLimit: {
			"array x 0;", "array x 17;", "array a 1; array b 1; array c 1; array d 1; array e 1;", "func f(a,b,c,d,e,f,g){return 0;}", "func f()var a,b,c,d,e,f,g,h,i{return 0;}",
			strings.Repeat("func f(){return 0;}", 9), "func f(){" + strings.Repeat("trap 1;", 201) + "return 0;}", "func f(){" + strings.Repeat("while(1){}", 17) + "return 0;}",
			"func f(){" + strings.Repeat("if(1){", 21) + "trap 1;" + strings.Repeat("}", 21) + "return 0;}", "func f(){return " + strings.Repeat("~", 21) + "1;}",
		},
		api.ErrDuplicate: {"array x 1; array x 2;", "func f(){return 0;}func f(){return 1;}", "func f(a,a){return 0;}", "func f()var a,a{return 0;}", "func f(a)var a{return 0;}", "array x 1; func f(x){return 0;}", "func f()var x{return 0;} array x 1;"},
		api.ErrUndefined: {"func f(){return a;}", "func f(){return x[0];}", "func f(){a=1;return 0;}", "func f(a){a[0]=1;return 0;}", "func f(a){a=g();return 0;}", "func f(){a=f();return 0;}", "array x 1; func f(){return x;}"},
		api.ErrArity:     {"func f(a){a=f();return a;}", "func f(a){a=f(1,2);return a;}", "func f()var a{a=f(a);return a;}"},
	} {
		for _, text := range texts {
			checkNoText(t, text, testtrees.MustParse(t, text), why)
			checkNoText(t, "valid functions and "+text, testtrees.MustParse(t, "func v(){return 0;}"+text+"func w(){return 1;}"), why)
		}
	}
}

// TestNoSyntaxTrees has programs that are none of any text. Most of them have a text that looks like one.
func TestNoSyntaxTrees(t *testing.T) {
	one := testtrees.Num(1)
	for what, s := range map[string]api.Stmt{
		"no kind":                      {},
		"unknown kind":                 {Kind: api.StmtTrap + 1},
		"negative kind":                {Kind: -1},
		"negative trap":                testtrees.Trap(-1),
		"great trap":                   testtrees.Trap(1_000_001),
		"name with a space":            testtrees.Assign("a ", one),
		"reserved name":                testtrees.Assign("if", one),
		"name in trap":                 {Kind: api.StmtTrap, Name: "a"},
		"function in assign":           {Kind: api.StmtAssign, Name: "a", Value: one, To: "f"},
		"index in assign":              {Kind: api.StmtAssign, Name: "a", At: one, Value: one},
		"number in assign":             {Kind: api.StmtAssign, Name: "a", Value: one, N: 1},
		"arguments in out":             {Kind: api.StmtOut, Value: one, Args: []api.Expr{one}},
		"else in while":                {Kind: api.StmtWhile, Value: one, Else: body(testtrees.Trap(1))},
		"then in out":                  {Kind: api.StmtOut, Value: one, Then: body(testtrees.Trap(1))},
		"value in call":                {Kind: api.StmtCall, Name: "a", To: "g", Value: one},
		"no value":                     {Kind: api.StmtOut},
		"no condition":                 {Kind: api.StmtIf, Then: body(testtrees.Trap(1))},
		"no index":                     {Kind: api.StmtStore, Name: "x", Value: one},
		"expression of unknown kind":   testtrees.Out(api.Expr{Kind: 6}),
		"number with a name":           testtrees.Out(api.Expr{Kind: api.ExprNum, Name: "a"}),
		"number with a kid":            testtrees.Out(api.Expr{Kind: api.ExprNum, Kids: []api.Expr{one}}),
		"variable with a number":       testtrees.Out(api.Expr{Kind: api.ExprVar, Name: "a", N: 1}),
		"element without an index":     testtrees.Out(api.Expr{Kind: api.ExprIndex, Name: "x"}),
		"element with two indices":     testtrees.Out(api.Expr{Kind: api.ExprIndex, Name: "x", Kids: []api.Expr{one, one}}),
		"element with an operation":    testtrees.Out(api.Expr{Kind: api.ExprIndex, Op: api.OpAdd, Name: "x", Kids: []api.Expr{one}}),
		"OpLtu":                        testtrees.Out(testtrees.Op(api.OpLtu, one, one)),
		"OpConst":                      testtrees.Out(testtrees.Op(api.OpConst, one)),
		"OpSelect":                     testtrees.Out(testtrees.Op(api.OpSelect, one, one, one)),
		"operation 0":                  testtrees.Out(testtrees.Op(0, one, one)),
		"negative operation":           testtrees.Out(testtrees.Op(-1, one, one)),
		"great operation":              testtrees.Out(testtrees.Op(1<<40, one, one)),
		"OpSub of one":                 testtrees.Out(testtrees.Op(api.OpSub, one)),
		"OpNeg of none":                testtrees.Out(testtrees.Op(api.OpNeg)),
		"OpNeg of two":                 testtrees.Out(testtrees.Op(api.OpNeg, one, one)),
		"OpNot of two":                 testtrees.Out(testtrees.Op(api.OpNot, one, one)),
		"OpAdd of three":               testtrees.Out(testtrees.Op(api.OpAdd, one, one, one)),
		"conditional of two":           testtrees.Out(api.Expr{Kind: api.ExprCond, Kids: []api.Expr{one, one}}),
		"conditional of four":          testtrees.Out(api.Expr{Kind: api.ExprCond, Kids: []api.Expr{one, one, one, one}}),
		"conditional with a name":      testtrees.Out(api.Expr{Kind: api.ExprCond, Name: "a", Kids: []api.Expr{one, one, one}}),
		"variable that is an operator": testtrees.Out(testtrees.Var("1 + a")),
		"variable that is empty":       testtrees.Out(testtrees.Var("")),
	} {
		checkNoText(t, what, withBody(s), api.ErrSyntax)
		checkNoText(t, what+" inside others", withBody(testtrees.Trap(1), testtrees.If(one, nil, body(testtrees.While(one, s))), testtrees.Trap(2)), api.ErrSyntax)
	}
	checkNoText(t, "long name", api.Program{Arrays: []api.Array{{Name: "abcdefghijklmnopq", Len: 1}}}, api.ErrSyntax)
	checkNoText(t, "function without a value", api.Program{Funcs: []api.Func{{Name: "f"}}}, api.ErrSyntax)
	checkNoText(t, "parameter that is a list", api.Program{Funcs: []api.Func{{Name: "f", Params: []string{"a, b"}, Value: one}}}, api.ErrSyntax)
}

// TestGreatDepth has trees that are too deep for recursion, among them such as contain themselves.
func TestGreatDepth(t *testing.T) {
	expression := testtrees.Nested(1_000_000, testtrees.Num(1), func(e api.Expr) api.Expr { return testtrees.Op(api.OpNot, e) })
	statement := testtrees.Nested(1_000_000, testtrees.Trap(1), func(s api.Stmt) api.Stmt { return testtrees.If(testtrees.Num(1), body(s), nil) })
	checkNoText(t, "expression", withBody(testtrees.Out(expression)), api.ErrLimit)
	checkNoText(t, "statement", withBody(statement), api.ErrLimit)
	kids := make([]api.Expr, 2)
	kids[0], kids[1] = testtrees.Op(api.OpAdd, kids...), testtrees.Op(api.OpSub, kids...)
	list := make([]api.Stmt, 2)
	list[0], list[1] = testtrees.Trap(1), testtrees.If(testtrees.Num(1), list, list)
	checkNoText(t, "expression that contains itself", withBody(testtrees.Out(kids[0])), api.ErrLimit)
	checkNoText(t, "statement that contains itself", withBody(list...), api.ErrLimit)
}
