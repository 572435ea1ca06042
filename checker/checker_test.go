package checker_test

import (
	"reflect"
	"strings"
	"testing"

	"fulling/api"
	"fulling/checker"
	"fulling/testtrees"
)

// Promise 4.1: Check returns OK for valid programs.

func TestValidPrograms(t *testing.T) {
	checkTexts(t, api.OK,
		"", " # no declaration\n",
		"array x 1;", "array x 16;", "array x 3; array y 4;", "array f 1; array g 2;",
		"func f() { return 0; }", "func f(a) { return a; }", "func f(a) var b { return a + b; }", "func f() var b { return b; }",
		"func f() { return 0; } array x 1; func g(a) { return x[a]; } array y 2;",
		"func f() { return x[0]; } array x 1;",
	)
}

func TestValidStatements(t *testing.T) {
	for _, statements := range []string{
		"a = 1;", "b = a;", "a = a;", "x[0] = 1;", "x[a] = x[b];", "x[x[x[0]]] = y[1];", "y[a] = b;", "out 1;", "out a;", "trap 0;", "trap 1000000;",
		"if (a) { }", "if (a) { } else { }", "if (a) { b = 1; }", "if (a) { } else { b = 1; }", "if (a) { b = 1; out b; } else { trap 1; }",
		"while (a) { }", "while (a) { a = a - 1; while (b) { if (a) { while (1) { } } else { b = 0; } } }",
		"a = f(1, 2);", "b = f(a, x[b]);", "a = g();", "b = h(1, 2, 3, 4, 5, a);", "a = f(f, g);",
	} {
		checkTexts(t, api.OK, "array x 2; array y 3; func g() { return 1; } func f(a, b) var f, g { "+statements+" return 2; } func h(a, b, c, d, e, f) { return a; }")
	}
}

func TestValidExpressions(t *testing.T) {
	expressions := []string{
		"0", "9223372036854775807", "-9223372036854775808", "-1", "a", "b", "x[0]", "x[a]", "x[x[b]]", "-a", "~a", "!a", "-(5)", "- -5", "a ? b : 1", "a ? x[a] : b ? 1 : -b", "(a ? b : 0) ? 1 : 2", "x[a ? b : 0]",
	}
	for _, symbol := range []string{"|", "^", "&", "==", "!=", "<", "<=", ">", ">=", "<<", ">>", ">>>", "+", "-", "*", "/", "%"} {
		expressions = append(expressions, "a "+symbol+" b", "1 "+symbol+" x[2] "+symbol+" -a")
	}
	for _, expression := range expressions {
		for _, statement := range []string{"a = @;", "x[@] = 0;", "x[0] = @;", "if (@) { }", "while (@) { }", "out @;", "a = f(@, 1);", "a = f(0, @);", "return @;"} {
			body := strings.Replace(statement, "@", expression, 1)
			if !strings.HasPrefix(body, "return") {
				body += " return 0;"
			}
			checkTexts(t, api.OK, "array x 2; func f(a, c) var b { "+body+" }")
		}
	}
}

// TestEmptyPrograms checks that it makes no difference whether a slice is nil or empty.
func TestEmptyPrograms(t *testing.T) {
	check(t, "nil", api.Program{}, api.OK)
	check(t, "empty", api.Program{Arrays: []api.Array{}, Funcs: []api.Func{}}, api.OK)
	empty := api.Expr{Kids: []api.Expr{}}
	check(t, "empty slices", api.Program{Arrays: []api.Array{{Name: "x", Len: 1}}, Funcs: []api.Func{{
		Name: "f", Params: []string{}, Locals: []string{"a"}, Value: api.Expr{Kind: api.ExprVar, Name: "a", Kids: []api.Expr{}},
		Body: []api.Stmt{
			{Kind: api.StmtAssign, Name: "a", At: empty, Value: api.Expr{Kind: api.ExprNum, Kids: []api.Expr{}}, Args: []api.Expr{}, Then: []api.Stmt{}, Else: []api.Stmt{}},
			{Kind: api.StmtStore, Name: "x", At: testtrees.Num(0), Value: testtrees.Num(0), Args: []api.Expr{}, Then: []api.Stmt{}, Else: []api.Stmt{}},
			{Kind: api.StmtIf, At: empty, Value: testtrees.Num(0), Args: []api.Expr{}, Then: []api.Stmt{}, Else: []api.Stmt{}},
			{Kind: api.StmtWhile, At: empty, Value: testtrees.Num(0), Args: []api.Expr{}, Then: []api.Stmt{}, Else: []api.Stmt{}},
			{Kind: api.StmtOut, At: empty, Value: testtrees.Num(0), Args: []api.Expr{}, Then: []api.Stmt{}, Else: []api.Stmt{}},
			{Kind: api.StmtCall, Name: "a", To: "f", At: empty, Value: empty, Args: []api.Expr{}, Then: []api.Stmt{}, Else: []api.Stmt{}},
			{Kind: api.StmtTrap, At: empty, Value: empty, Args: []api.Expr{}, Then: []api.Stmt{}, Else: []api.Stmt{}},
		},
	}}}, api.OK)
}

// The chapter's table of examples.

func TestExamplesOfTheChapter(t *testing.T) {
	checkTexts(t, api.OK, "")
	checkTexts(t, api.ErrDuplicate, "func f(x, x) { return 0; }")
}

// R2 and R4: Check changes neither its argument nor the unused capacity of slices in it, and repeats its answers.

func TestArgumentIsNotChanged(t *testing.T) {
	const text = "array x 2; array y 3; func f(a, b) var c { if (a) { b = x[1]; out b; } else { while (b) { trap 3; } } c = f(a, b ? 1 : ~c); return c; } func g() { return 0; }"
	for _, c := range []struct {
		why    api.Errno
		change func(p *api.Program)
	}{
		{api.OK, func(p *api.Program) {}},
		{api.ErrLimit, func(p *api.Program) { p.Arrays[1].Len = 0 }},
		{api.ErrSyntax, func(p *api.Program) { p.Funcs[1].Name = "1" }},
		{api.ErrDuplicate, func(p *api.Program) { p.Funcs[0].Locals[0] = "y" }},
		{api.ErrUndefined, func(p *api.Program) { p.Funcs[1].Value = testtrees.Var("a") }},
		{api.ErrArity, func(p *api.Program) { p.Funcs[0].Body[1].Args = p.Funcs[0].Body[1].Args[:1] }},
	} {
		p, same := testtrees.MustParse(t, text), testtrees.MustParse(t, text)
		for _, q := range []*api.Program{&p, &same} {
			c.change(q)
			q.Arrays = append(q.Arrays, api.Array{Name: "spare", Len: 7})[:2]
			q.Funcs = append(q.Funcs, api.Func{Name: "spare"})[:2]
			q.Funcs[0].Params = append(q.Funcs[0].Params, "spare")[:2]
			q.Funcs[0].Locals = append(q.Funcs[0].Locals, "spare")[:1]
			q.Funcs[0].Body = append(q.Funcs[0].Body, testtrees.Trap(99))[:2]
		}
		for range 3 {
			check(t, text, p, c.why)
		}
		for _, q := range []*api.Program{&p, &same} {
			q.Arrays, q.Funcs = q.Arrays[:3], q.Funcs[:3]
			f := &q.Funcs[0]
			f.Params, f.Locals, f.Body = f.Params[:3], f.Locals[:2], f.Body[:3]
		}
		if !reflect.DeepEqual(p, same) {
			t.Errorf("Check changes a program for which it returns %d", c.why)
		}
	}
}

// R1: trees of any depth and width have an answer, even those that contain themselves.

const huge = 1_000_000

func TestGreatDepth(t *testing.T) {
	deep, nested := testtrees.Num(1), testtrees.Trap(1)
	for i := range huge {
		kind := 1 + i%7
		deep = api.Expr{Kind: kind, Kids: []api.Expr{deep}}
		nested = api.Stmt{Kind: kind, Value: testtrees.Num(1), Then: []api.Stmt{nested}}
		if i%2 == 0 {
			nested.Then, nested.Else = nil, nested.Then
		}
	}
	check(t, "the result", returning(deep), api.ErrLimit)
	check(t, "the value of a statement", withBody(testtrees.Out(deep)), api.ErrLimit)
	check(t, "the index of a statement", withBody(store(deep, testtrees.Num(1))), api.ErrLimit)
	check(t, "an argument", withBody(call(testtrees.Num(1), deep)), api.ErrLimit)
	check(t, "statements", withBody(nested), api.ErrLimit)
}

func TestGreatWidth(t *testing.T) {
	names := make([]string, huge)
	check(t, "arrays", api.Program{Arrays: make([]api.Array, huge)}, api.ErrLimit)
	check(t, "functions", api.Program{Funcs: make([]api.Func, huge)}, api.ErrLimit)
	check(t, "parameters", api.Program{Funcs: []api.Func{{Params: names}}}, api.ErrLimit)
	check(t, "local variables", api.Program{Funcs: []api.Func{{Locals: names}}}, api.ErrLimit)
	check(t, "statements", withBody(make([]api.Stmt, huge)...), api.ErrLimit)
	check(t, "nested statements", withBody(branch(nil, make([]api.Stmt, huge))), api.ErrLimit)

	list := make([]api.Expr, huge)
	check(t, "wrong arguments", withBody(call(list...)), api.ErrSyntax)
	check(t, "wrong operands", returning(api.Expr{Kind: api.ExprCond, Kids: list}), api.ErrSyntax)
	for i := range list {
		list[i] = testtrees.Var("b")
	}
	check(t, "arguments", withBody(call(list...)), api.ErrArity)
	check(t, "operands", returning(testtrees.Op(api.OpAdd, list...)), api.ErrSyntax)
	list[huge-1] = testtrees.Nested(api.MaxDeep+1, testtrees.Num(1), negated)
	check(t, "deep last argument", withBody(call(list...)), api.ErrLimit)
	check(t, "deep last operand", returning(testtrees.Op(api.OpAdd, list...)), api.ErrLimit)

	long := strings.Repeat("a", 10*huge)
	check(t, "name of an array", api.Program{Arrays: []api.Array{{Name: long, Len: 1}}}, api.ErrSyntax)
	check(t, "name of a variable", returning(testtrees.Var(long)), api.ErrSyntax)
	check(t, "unused name", returning(api.Expr{Kind: api.ExprNum, Name: long}), api.ErrSyntax)
}

// TestFullTree checks an expression in which every node above the greatest depth has two kids.
func TestFullTree(t *testing.T) {
	full := testtrees.Var("a")
	for range api.MaxDeep {
		full = testtrees.Op(api.OpAdd, full, full)
	}
	check(t, "full", returning(full), api.OK)
	check(t, "full and one level more", returning(testtrees.Op(api.OpAdd, full, full)), api.ErrLimit)
	for range 60 {
		full = testtrees.Op(api.OpAdd, full, full)
	}
	check(t, "full and many levels more", returning(full), api.ErrLimit)
}

func TestTreesThatContainThemselves(t *testing.T) {
	kids := make([]api.Expr, 3)
	for i := range kids {
		kids[i] = api.Expr{Kind: api.ExprCond, Kids: kids}
	}
	body := make([]api.Stmt, 3)
	for i := range body {
		body[i] = branch(body, body)
	}
	single := make([]api.Stmt, 1)
	single[0] = loop(single...)
	check(t, "expression", returning(kids[0]), api.ErrLimit)
	check(t, "argument", withBody(call(kids...)), api.ErrLimit)
	check(t, "statements", withBody(body...), api.ErrLimit)
	check(t, "statement", withBody(single...), api.ErrLimit)
}

func TestExtremeNumbers(t *testing.T) {
	for _, n := range []int{-1 << 63, -1<<63 + 1, -1000, -1, 1000, 1<<63 - 1} {
		check(t, "array length", api.Program{Arrays: []api.Array{{Name: "x", Len: n}}}, api.ErrLimit)
		check(t, "kind of a statement", withBody(api.Stmt{Kind: n}), api.ErrSyntax)
		check(t, "kind of an expression", returning(api.Expr{Kind: n}), api.ErrSyntax)
		check(t, "operation", returning(testtrees.Op(n, testtrees.Num(1), testtrees.Num(2))), api.ErrSyntax)
		check(t, "operation without operands", returning(testtrees.Op(n)), api.ErrSyntax)
	}
	var p api.Program
	if got := checker.Check(p); got != api.OK {
		t.Errorf("Check of the zero program = %d", got)
	}
}
