package checker_test

import (
	"fmt"
	"slices"
	"strings"
	"testing"

	"fulling/api"
	"fulling/testtrees"
)

// Promise 4.1, ErrSyntax: names.

// namePlaces puts a name at each place of a program that uses one. The program defines the name wherever it can.
func namePlaces() map[string]func(name string) api.Program {
	withArray := func(name string, s api.Stmt) api.Program {
		p := withBody(s)
		p.Arrays = append(p.Arrays, api.Array{Name: name, Len: 2})
		return p
	}
	withLocal := func(name string, s api.Stmt) api.Program {
		p := withBody(branch(nil, []api.Stmt{s}))
		p.Funcs[0].Locals = append(p.Funcs[0].Locals, name)
		return p
	}
	return map[string]func(name string) api.Program{
		"the only array": func(name string) api.Program { return api.Program{Arrays: []api.Array{{Name: name, Len: 1}}} },
		"the last array": func(name string) api.Program { return withArray(name, testtrees.Trap(0)) },
		"the only function": func(name string) api.Program {
			return api.Program{Funcs: []api.Func{{Name: name, Value: testtrees.Num(0)}}}
		},
		"the last function": func(name string) api.Program {
			p := withBody()
			p.Funcs = append(p.Funcs, api.Func{Name: name, Value: testtrees.Num(0)})
			return p
		},
		"the first parameter": func(name string) api.Program {
			return api.Program{Funcs: []api.Func{{Name: "f", Params: []string{name, "second"}, Value: testtrees.Num(0)}}}
		},
		"the last parameter": func(name string) api.Program {
			return api.Program{Funcs: []api.Func{{Name: "f", Params: []string{"first", name}, Value: testtrees.Num(0)}}}
		},
		"the first local variable": func(name string) api.Program {
			return api.Program{Funcs: []api.Func{{Name: "f", Locals: []string{name, "second"}, Value: testtrees.Num(0)}}}
		},
		"the last local variable": func(name string) api.Program { return withLocal(name, testtrees.Trap(0)) },
		"a variable of the result": func(name string) api.Program {
			p := withLocal(name, testtrees.Trap(0))
			p.Funcs[0].Value = testtrees.Op(api.OpAdd, testtrees.Num(1), testtrees.Var(name))
			return p
		},
		"a variable in a condition": func(name string) api.Program {
			return withLocal(name, api.Stmt{Kind: api.StmtWhile, Value: testtrees.Var(name)})
		},
		"a variable in an index": func(name string) api.Program {
			return withLocal(name, store(negated(testtrees.Var(name)), testtrees.Num(0)))
		},
		"a variable in an argument": func(name string) api.Program { return withLocal(name, call(testtrees.Var(name))) },
		"an array in an expression": func(name string) api.Program {
			return withArray(name, testtrees.Out(testtrees.Cond(testtrees.Num(1), testtrees.Num(2), testtrees.Element(name, testtrees.Num(0)))))
		},
		"an array in an index": func(name string) api.Program {
			return withArray(name, store(testtrees.Element("x", testtrees.Element(name, testtrees.Num(0))), testtrees.Num(0)))
		},
		"an assigned variable": func(name string) api.Program {
			return withLocal(name, testtrees.Assign(name, testtrees.Num(0)))
		},
		"the variable of a call": func(name string) api.Program {
			return withLocal(name, testtrees.Call(name, "f", testtrees.Num(0)))
		},
		"the array of a store": func(name string) api.Program {
			return withArray(name, loop(testtrees.Store(name, testtrees.Num(0), testtrees.Num(0))))
		},
		"a called function": func(name string) api.Program {
			p := withBody(testtrees.Trap(1), testtrees.Call("a", name))
			p.Funcs = append(p.Funcs, api.Func{Name: name, Value: testtrees.Num(0)})
			return p
		},
	}
}

func TestNames(t *testing.T) {
	for where, place := range namePlaces() {
		for _, name := range []string{
			"n", "z", "Z", "_", "__", "_0", "n0", "a_b", "A9z_", "abcdefghijklmnop", "________________", "Array", "ARRAY", "arrays", "_array", "array_", "array1", "fun", "funcs", "variable", "va", "returns", "retur", "iff", "i", "i_f", "If", "elseif", "els", "whiles", "whil", "outs", "ou", "output", "traps", "tra", "trap1", "main", "int", "break", "nil", "true",
		} {
			check(t, fmt.Sprintf("%q as %s", name, where), place(name), api.OK)
		}
		for _, name := range []string{
			"", "abcdefghijklmnopq", "_________________", strings.Repeat("x", 100), strings.Repeat("x", api.MaxText), strings.Repeat("x", api.MaxText+1),
			"0", "1", "12", "1n", "0x1", "9_", "-1", "9223372036854775808",
			" ", " n", "n ", "\tn", "n\n", "n\r", "\nn", "n m", "n  ", "n#", "n# comment", "#", "# n", "#\nn", "n,m", "n, m", "n;", ";", ",", "(", ")", "(n)", "n)", "[", "n[0]", "{", "}", "=", "n=1", "==", "?", ":", "n?m:o", "+", "n+m", "-", "-n", "~n", "!", "!n", ">>>", "<<", "n()", "n(m)",
			"n-m", "n.m", "n'", "\"n\"", "'n'", "$", "$n", "n$", "@", "\\", "`", "n\x00", "\x00", "\x00n", "\x80", "n\xff", "é", "né", "ñ", "变", "ｎ", "n\u200b", "\ufeffn", "\u00a0n", "n\u2028", "٣", "n٣",
			"n 1; array m", "n 1; array", "n 2;#", "n 1; func f() { return 0; } array m", "1; array n", "; array n",
		} {
			check(t, fmt.Sprintf("%q as %s", name, where), place(name), api.ErrSyntax)
		}
		for _, name := range []string{"array", "func", "var", "return", "if", "else", "while", "out", "trap"} {
			check(t, fmt.Sprintf("%q as %s", name, where), place(name), api.ErrSyntax)
			check(t, fmt.Sprintf("%q with a capital letter as %s", name, where), place(strings.ToUpper(name[:1])+name[1:]), api.OK)
		}
	}
}

// TestBytesOfNames checks each byte as a name, and at the start, in the middle and at the end of one.
func TestBytesOfNames(t *testing.T) {
	for b := range 256 {
		isLetter := b >= 'a' && b <= 'z' || b >= 'A' && b <= 'Z' || b == '_'
		isDigit := b >= '0' && b <= '9'
		one := string([]byte{byte(b)})
		for name, valid := range map[string]bool{one: isLetter, one + "n": isLetter, "n" + one + "n": isLetter || isDigit, "n" + one: isLetter || isDigit} {
			want := api.ErrSyntax
			if valid {
				want = api.OK
			}
			check(t, fmt.Sprintf("the name %q", name), api.Program{Arrays: []api.Array{{Name: name, Len: 1}}}, want)
		}
	}
}

// TestNamesOfEachLength checks names, and the same names behind a separator, up to and beyond the limit.
func TestNamesOfEachLength(t *testing.T) {
	for length := range 3 * api.MaxName {
		name := strings.Repeat("n", length)
		want := api.OK
		if length < 1 || length > api.MaxName {
			want = api.ErrSyntax
		}
		for where, place := range namePlaces() {
			what := fmt.Sprintf("a name of %d bytes as %s", length, where)
			check(t, what, place(name), want)
			check(t, what+" behind a space", place(" "+name), api.ErrSyntax)
			check(t, what+" before a space", place(name+" "), api.ErrSyntax)
		}
	}
}

// Promise 4.1, ErrSyntax: kinds, operations and operands.

// insideOther puts an expression into others, so that it is not the root.
func insideOther(e api.Expr) []api.Expr {
	one := testtrees.Num(1)
	return []api.Expr{e, negated(e), testtrees.Op(api.OpSub, one, e), testtrees.Element("x", e), testtrees.Cond(one, one, e), testtrees.Cond(e, one, testtrees.Cond(one, e, testtrees.Op(api.OpMul, e, one)))}
}

func checkEverywhere(t *testing.T, what string, e api.Expr, want api.Errno) {
	t.Helper()
	for where, place := range expressionPlaces() {
		for i, whole := range insideOther(e) {
			check(t, fmt.Sprintf("%s in form %d of %s", what, i, where), place(whole), want)
		}
	}
}

func TestKindsOfExpressions(t *testing.T) {
	for _, kind := range []int{-1 << 63, -6, -5, -1, 0, 6, 7, 8, 1 << 32, 1<<32 + 1, 1<<63 - 1} {
		for kids := range 5 {
			checkEverywhere(t, fmt.Sprintf("kind %d with %d kids", kind, kids), api.Expr{Kind: kind, Kids: ones(kids)}, api.ErrSyntax)
		}
		checkEverywhere(t, fmt.Sprintf("kind %d with a name", kind), api.Expr{Kind: kind, Name: "a"}, api.ErrSyntax)
		checkEverywhere(t, fmt.Sprintf("kind %d with an operation", kind), api.Expr{Kind: kind, Op: api.OpAdd, Kids: ones(2)}, api.ErrSyntax)
	}
}

func ones(n int) []api.Expr { return slices.Repeat([]api.Expr{testtrees.Num(1)}, n) }

// validExpressions returns an expression of each kind, with the number of its kids.
func validExpressions() map[string]struct {
	expr api.Expr
	kids int
} {
	type row = struct {
		expr api.Expr
		kids int
	}
	return map[string]row{
		"a number":    {testtrees.Num(7), 0},
		"a variable":  {testtrees.Var("a"), 0},
		"an element":  {testtrees.Element("x", testtrees.Num(1)), 1},
		"OpAdd":       {testtrees.Op(api.OpAdd, ones(2)...), 2},
		"OpLe":        {testtrees.Op(api.OpLe, ones(2)...), 2},
		"OpNeg":       {testtrees.Op(api.OpNeg, ones(1)...), 1},
		"OpNot":       {testtrees.Op(api.OpNot, ones(1)...), 1},
		"a condition": {api.Expr{Kind: api.ExprCond, Kids: ones(3)}, 3},
	}
}

func TestNumbersOfOperands(t *testing.T) {
	for what, valid := range validExpressions() {
		for kids := range 7 {
			e := valid.expr
			e.Kids = ones(kids)
			want := api.ErrSyntax
			if kids == valid.kids {
				want = api.OK
			}
			checkEverywhere(t, fmt.Sprintf("%s with %d kids", what, kids), e, want)
		}
	}
}

func TestOperations(t *testing.T) {
	for operation := -2; operation < 40; operation++ {
		right := -1
		switch {
		case operation >= api.OpAdd && operation <= api.OpLe:
			right = 2
		case operation == api.OpNeg || operation == api.OpNot:
			right = 1
		}
		for kids := range 5 {
			want := api.ErrSyntax
			if kids == right {
				want = api.OK
			}
			checkEverywhere(t, fmt.Sprintf("operation %d with %d kids", operation, kids), testtrees.Op(operation, ones(kids)...), want)
		}
	}
	for _, operation := range []int{-1 << 63, -api.OpAdd, 1 << 32, 1<<32 + api.OpAdd, 1<<63 - 1} {
		for kids := range 4 {
			check(t, fmt.Sprintf("operation %d with %d kids", operation, kids), returning(testtrees.Op(operation, ones(kids)...)), api.ErrSyntax)
		}
	}
}

// TestUnusedFieldsOfExpressions sets each field that a kind does not use. Values that would be valid elsewhere make no difference.
func TestUnusedFieldsOfExpressions(t *testing.T) {
	for what, valid := range validExpressions() {
		checkEverywhere(t, what, valid.expr, api.OK)
		if valid.expr.Kind != api.ExprNum {
			for _, n := range []int64{-1 << 63, -1, 1, 1 << 32, 1<<63 - 1} {
				e := valid.expr
				e.N = n
				checkEverywhere(t, fmt.Sprintf("%s with N %d", what, n), e, api.ErrSyntax)
			}
		}
		if valid.expr.Kind != api.ExprVar && valid.expr.Kind != api.ExprIndex {
			for _, name := range []string{"a", "b", "x", "f", "-", "if", "undefined"} {
				e := valid.expr
				e.Name = name
				checkEverywhere(t, fmt.Sprintf("%s with Name %q", what, name), e, api.ErrSyntax)
			}
		}
		if valid.expr.Kind != api.ExprOp {
			for _, operation := range []int{-1, 1, api.OpAdd, api.OpNeg, 1 << 32} {
				e := valid.expr
				e.Op = operation
				checkEverywhere(t, fmt.Sprintf("%s with Op %d", what, operation), e, api.ErrSyntax)
			}
		}
	}
	for _, n := range []int64{-1 << 63, -1<<63 + 1, -1, 0, 1, 1<<63 - 1} {
		checkEverywhere(t, fmt.Sprintf("the number %d", n), testtrees.Num(n), api.OK)
	}
}

// Promise 4.1, ErrSyntax: statements.

// validStatements returns a statement of each kind, and which of its fields the kind uses.
func validStatements() map[string]struct {
	stmt api.Stmt
	uses string
} {
	type row = struct {
		stmt api.Stmt
		uses string
	}
	return map[string]row{
		"an assign": {assign(testtrees.Num(1)), "Name Value"},
		"a store":   {store(testtrees.Num(1), testtrees.Num(2)), "Name At Value"},
		"an if":     {branch(traps(1), traps(1)), "Value Then Else"},
		"a while":   {loop(testtrees.Trap(1)), "Value Then"},
		"an out":    {testtrees.Out(testtrees.Num(1)), "Value"},
		"a call":    {call(testtrees.Num(1)), "Name To Args"},
		"a trap":    {testtrees.Trap(1), "N"},
	}
}

// statementFields sets each field to different nonzero values, most of which would be valid where the field is used.
func statementFields() map[string][]func(s *api.Stmt) {
	return map[string][]func(s *api.Stmt){
		"Name": {
			func(s *api.Stmt) { s.Name = "a" }, func(s *api.Stmt) { s.Name = "x" }, func(s *api.Stmt) { s.Name = "-" }, func(s *api.Stmt) { s.Name = "if" },
		},
		"To": {
			func(s *api.Stmt) { s.To = "f" }, func(s *api.Stmt) { s.To = "a" }, func(s *api.Stmt) { s.To = "1" }, func(s *api.Stmt) { s.To = "undefined" },
		},
		"N": {
			func(s *api.Stmt) { s.N = 1 }, func(s *api.Stmt) { s.N = -1 }, func(s *api.Stmt) { s.N = 1_000_000 }, func(s *api.Stmt) { s.N = 1 << 32 },
		},
		"At":    expressionField(func(s *api.Stmt, e api.Expr) { s.At = e }),
		"Value": expressionField(func(s *api.Stmt, e api.Expr) { s.Value = e }),
		"Args": {
			func(s *api.Stmt) { s.Args = ones(1) }, func(s *api.Stmt) { s.Args = make([]api.Expr, 1) }, func(s *api.Stmt) { s.Args = []api.Expr{testtrees.Var("a"), testtrees.Num(0)} },
		},
		"Then": {
			func(s *api.Stmt) { s.Then = traps(1) }, func(s *api.Stmt) { s.Then = make([]api.Stmt, 1) }, func(s *api.Stmt) { s.Then = []api.Stmt{assign(testtrees.Num(1)), testtrees.Trap(2)} },
		},
		"Else": {
			func(s *api.Stmt) { s.Else = traps(1) }, func(s *api.Stmt) { s.Else = make([]api.Stmt, 1) }, func(s *api.Stmt) { s.Else = []api.Stmt{branch(nil, nil)} },
		},
	}
}

// expressionField also sets each field of the expression alone: an expression that is not used must be zero in all of them.
func expressionField(set func(s *api.Stmt, e api.Expr)) []func(s *api.Stmt) {
	var result []func(s *api.Stmt)
	for _, e := range []api.Expr{testtrees.Num(0), testtrees.Num(1), testtrees.Var("a"), testtrees.Element("x", testtrees.Num(0)), {Kind: -1}, {Kind: 6}, {N: 1}, {N: -1}, {Name: "a"}, {Name: "-"}, {Op: 1}, {Op: api.OpAdd}, {Op: -1}, {Kids: ones(1)}, {Kids: make([]api.Expr, 1)}} {
		result = append(result, func(s *api.Stmt) { set(s, e) })
	}
	return result
}

// statementPlaces puts a statement at each nesting level, before and behind others.
func statementPlaces() map[string]func(s api.Stmt) api.Program {
	return map[string]func(s api.Stmt) api.Program{
		"alone":     func(s api.Stmt) api.Program { return withBody(s) },
		"first":     func(s api.Stmt) api.Program { return withBody(s, testtrees.Trap(1)) },
		"last":      func(s api.Stmt) api.Program { return withBody(testtrees.Trap(1), s) },
		"in Then":   func(s api.Stmt) api.Program { return withBody(branch([]api.Stmt{testtrees.Trap(1), s}, nil)) },
		"in Else":   func(s api.Stmt) api.Program { return withBody(branch(traps(1), []api.Stmt{s, testtrees.Trap(1)})) },
		"in a loop": func(s api.Stmt) api.Program { return withBody(loop(s, testtrees.Trap(1))) },
		"in a last loop": func(s api.Stmt) api.Program {
			return withBody(loop(testtrees.Trap(1)), loop(testtrees.Trap(1), loop(s)))
		},
		"deepest": func(s api.Stmt) api.Program {
			return withBody(testtrees.Nested(api.MaxDeep-1, s, func(s api.Stmt) api.Stmt { return branch(nil, []api.Stmt{s}) }))
		},
		"in the last function": func(s api.Stmt) api.Program {
			p := withBody(testtrees.Trap(1))
			p.Funcs = append(p.Funcs, api.Func{Name: "g", Params: []string{"a"}, Body: []api.Stmt{branch([]api.Stmt{s}, nil)}, Value: testtrees.Num(0)})
			return p
		},
	}
}

func TestUnusedFieldsOfStatements(t *testing.T) {
	for what, valid := range validStatements() {
		for where, place := range statementPlaces() {
			check(t, what+" "+where, place(valid.stmt), api.OK)
			for field, changes := range statementFields() {
				if slices.Contains(strings.Fields(valid.uses), field) {
					continue
				}
				for i, change := range changes {
					s := valid.stmt
					change(&s)
					check(t, fmt.Sprintf("%s %s with %s changed in way %d", what, where, field, i), place(s), api.ErrSyntax)
				}
			}
		}
	}
}

// TestMissingFieldsOfStatements makes each field zero that a kind uses.
func TestMissingFieldsOfStatements(t *testing.T) {
	for where, place := range statementPlaces() {
		for what, invalid := range map[string]api.Stmt{
			"assign without Name":    {Kind: api.StmtAssign, Value: testtrees.Num(0)},
			"assign without Value":   {Kind: api.StmtAssign, Name: "a"},
			"store without Name":     {Kind: api.StmtStore, At: testtrees.Num(0), Value: testtrees.Num(0)},
			"store without At":       {Kind: api.StmtStore, Name: "x", Value: testtrees.Num(0)},
			"store without Value":    {Kind: api.StmtStore, Name: "x", At: testtrees.Num(0)},
			"if without Value":       {Kind: api.StmtIf, Then: traps(1)},
			"while without Value":    {Kind: api.StmtWhile, Then: traps(1)},
			"out without Value":      {Kind: api.StmtOut},
			"call without Name":      {Kind: api.StmtCall, To: "f", Args: ones(1)},
			"call without To":        {Kind: api.StmtCall, Name: "a", Args: ones(1)},
			"call with a zero Expr":  {Kind: api.StmtCall, Name: "a", To: "f", Args: make([]api.Expr, 1)},
			"call with zero at last": {Kind: api.StmtCall, Name: "a", To: "f", Args: []api.Expr{testtrees.Num(1), {}}},
		} {
			check(t, what+" "+where, place(invalid), api.ErrSyntax)
		}
		for what, valid := range map[string]api.Stmt{
			"if without Then":    {Kind: api.StmtIf, Value: testtrees.Num(0), Else: traps(1)},
			"if without Else":    {Kind: api.StmtIf, Value: testtrees.Num(0), Then: traps(1)},
			"if without both":    {Kind: api.StmtIf, Value: testtrees.Num(0)},
			"while without Then": {Kind: api.StmtWhile, Value: testtrees.Num(0)},
			"trap without N":     {Kind: api.StmtTrap},
		} {
			check(t, what+" "+where, place(valid), api.OK)
		}
	}
	p := returning(api.Expr{})
	check(t, "function without Value", p, api.ErrSyntax)
	check(t, "call without Args", api.Program{Funcs: []api.Func{{Name: "f", Locals: []string{"a"}, Body: []api.Stmt{call()}, Value: testtrees.Num(0)}}}, api.OK)
}

func TestKindsOfStatements(t *testing.T) {
	// The second kind uses all fields of the first, and needs no others.
	exchangeable := [][2]int{{api.StmtOut, api.StmtIf}, {api.StmtOut, api.StmtWhile}, {api.StmtWhile, api.StmtIf}}
	for where, place := range statementPlaces() {
		for _, kind := range []int{-1 << 63, -8, -7, -1, 0, 8, 9, 10, 1 << 32, 1<<32 + 1, 1<<63 - 1} {
			check(t, fmt.Sprintf("kind %d %s", kind, where), place(api.Stmt{Kind: kind}), api.ErrSyntax)
			for what, valid := range validStatements() {
				s := valid.stmt
				s.Kind = kind
				check(t, fmt.Sprintf("%s with kind %d %s", what, kind, where), place(s), api.ErrSyntax)
			}
		}
		for what, valid := range validStatements() {
			for kind := api.StmtAssign; kind <= api.StmtTrap; kind++ {
				s := valid.stmt
				s.Kind = kind
				want := api.ErrSyntax
				if kind == valid.stmt.Kind || slices.Contains(exchangeable, [2]int{valid.stmt.Kind, kind}) {
					want = api.OK
				}
				check(t, fmt.Sprintf("%s with kind %d %s", what, kind, where), place(s), want)
			}
		}
	}
}

func TestTrapNumbers(t *testing.T) {
	for where, place := range statementPlaces() {
		for _, n := range []int{0, 1, 15, 16, 999_999, 1_000_000} {
			check(t, fmt.Sprintf("trap %d %s", n, where), place(testtrees.Trap(n)), api.OK)
		}
		for _, n := range []int{-1 << 63, -1_000_000, -2, -1, 1_000_001, 1_000_002, 1 << 31, 1 << 32, 1<<32 + 1, 1<<63 - 1} {
			check(t, fmt.Sprintf("trap %d %s", n, where), place(testtrees.Trap(n)), api.ErrSyntax)
		}
	}
}

// TestInvalidNextToValid puts an invalid part at each place of a list.
func TestInvalidNextToValid(t *testing.T) {
	for at := range 4 {
		list := arrays(4)
		list[at].Name = "1"
		check(t, fmt.Sprint("array ", at), api.Program{Arrays: list}, api.ErrSyntax)
		functionList := functions(4)
		functionList[at].Name = "1"
		check(t, fmt.Sprint("function ", at), api.Program{Funcs: functionList}, api.ErrSyntax)
		functionList = functions(4)
		functionList[at].Value = api.Expr{}
		check(t, fmt.Sprint("result ", at), api.Program{Funcs: functionList}, api.ErrSyntax)
		functionList = functions(4)
		functionList[at].Params = namesFrom("p", 4)
		functionList[at].Params[at] = "p p"
		check(t, fmt.Sprint("parameter ", at), api.Program{Funcs: functionList}, api.ErrSyntax)
		functionList = functions(4)
		functionList[at].Locals = namesFrom("l", 4)
		functionList[at].Locals[at] = "l,l"
		check(t, fmt.Sprint("local variable ", at), api.Program{Funcs: functionList}, api.ErrSyntax)
		args := ones(4)
		args[at] = testtrees.Var("")
		check(t, fmt.Sprint("argument ", at), withBody(call(args...)), api.ErrSyntax)
		body := traps(4)
		body[at].N = -1
		check(t, fmt.Sprint("statement ", at), withBody(body...), api.ErrSyntax)
	}
}
