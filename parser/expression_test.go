package parser_test

import (
	"strings"
	"testing"

	"fulling/api"
	"fulling/parser"
	"fulling/testtrees"
)

// Promise 3.2: numbers, variables, elements and parentheses.

func TestOperands(t *testing.T) {
	x := testtrees.Var("x")
	for text, want := range map[string]api.Expr{
		"0":                     testtrees.Num(0),
		"7":                     testtrees.Num(7),
		"1000001":               testtrees.Num(1000001),
		"9223372036854775807":   testtrees.Num(1<<63 - 1),
		"x":                     x,
		"_":                     testtrees.Var("_"),
		"Ab_9":                  testtrees.Var("Ab_9"),
		"x[0]":                  testtrees.Element("x", testtrees.Num(0)),
		"x [ x ]":               testtrees.Element("x", x),
		"x[y[z[1]]]":            testtrees.Element("x", testtrees.Element("y", testtrees.Element("z", testtrees.Num(1)))),
		"x[-1]":                 testtrees.Element("x", testtrees.Num(-1)),
		"x[1 + 2]":              testtrees.Element("x", testtrees.Op(api.OpAdd, testtrees.Num(1), testtrees.Num(2))),
		"x[a ? 1 : 2]":          testtrees.Element("x", testtrees.Cond(testtrees.Var("a"), testtrees.Num(1), testtrees.Num(2))),
		"(x)":                   x,
		"(((x)))":               x,
		"(0)":                   testtrees.Num(0),
		"(x[(0)])":              testtrees.Element("x", testtrees.Num(0)),
		"(a ? 1 : 2)":           testtrees.Cond(testtrees.Var("a"), testtrees.Num(1), testtrees.Num(2)),
		"x # ] \n [ # [ \n 0 ]": testtrees.Element("x", testtrees.Num(0)),
	} {
		checkExpression(t, text, want)
	}
	for _, marked := range []string{"(x)@[0]", "x[0]@[0]", "1@[0]", "x[@]", "x[0@, 1]", "(@)", "(1@, 2)", "@[0]", "x @y", "x @1", "1 @x", "1 @1", "(1) @(1)"} {
		checkMarkedExpression(t, marked)
	}
}

func TestNameBeforeParenthesis(t *testing.T) {
	for _, marked := range []string{"g@()", "g@(1)", "1 + g@(1)", "g@(1) + 1", "-g@(1)", "(g@())", "x[g@()]", "a ? g@() : 1", "a ? 1 : g@()", "g@() ? 1 : 2", "x[0]@(1)", "1@(1)", "(x)@(1)"} {
		checkMarkedExpression(t, marked)
	}
	for _, marked := range []string{
		"x = g() @+ 1;", "x = g(1)@[0];", "x = g()@();", "x = g() @? 1 : 2;", "x = 1 + g@();", "x = (g@());", "x = -g@();", "x = h(g@());", "x = h(1, g@(2));",
		"x[0] = g@();", "x[g@()] = 0;", "out g@();", "if (g@()) { }", "while (g@()) { }", "g@();", "x = y @= g();",
	} {
		checkMarkedStatements(t, marked)
	}
}

// Promise 3.2: the minus before a number.

func TestMinusAndNumbers(t *testing.T) {
	x, smallest := testtrees.Var("x"), testtrees.Num(-1<<63)
	neg := func(e api.Expr) api.Expr { return testtrees.Op(api.OpNeg, e) }
	for text, want := range map[string]api.Expr{
		"-0":                             testtrees.Num(0),
		"- 0":                            testtrees.Num(0),
		"-1":                             testtrees.Num(-1),
		"- 5":                            testtrees.Num(-5),
		"-\t\n5":                         testtrees.Num(-5),
		"-# c\n5":                        testtrees.Num(-5),
		"- # - 6\n # 7\n5":               testtrees.Num(-5),
		"-9223372036854775807":           testtrees.Num(-1<<63 + 1),
		"-9223372036854775808":           smallest,
		"- # c\n9223372036854775808":     smallest,
		"-(5)":                           neg(testtrees.Num(5)),
		"-(0)":                           neg(testtrees.Num(0)),
		"-(-5)":                          neg(testtrees.Num(-5)),
		"- -5":                           neg(testtrees.Num(-5)),
		"--5":                            neg(testtrees.Num(-5)),
		"--0":                            neg(testtrees.Num(0)),
		"---5":                           neg(neg(testtrees.Num(-5))),
		"- -9223372036854775808":         neg(smallest),
		"-(-9223372036854775808)":        neg(smallest),
		"(-9223372036854775808)":         smallest,
		"x[-9223372036854775808]":        testtrees.Element("x", smallest),
		"-x":                             neg(x),
		"-x[5]":                          neg(testtrees.Element("x", testtrees.Num(5))),
		"2 - 3":                          testtrees.Op(api.OpSub, testtrees.Num(2), testtrees.Num(3)),
		"2-3":                            testtrees.Op(api.OpSub, testtrees.Num(2), testtrees.Num(3)),
		"2 -3":                           testtrees.Op(api.OpSub, testtrees.Num(2), testtrees.Num(3)),
		"2 - -3":                         testtrees.Op(api.OpSub, testtrees.Num(2), testtrees.Num(-3)),
		"2--3":                           testtrees.Op(api.OpSub, testtrees.Num(2), testtrees.Num(-3)),
		"2 - - -3":                       testtrees.Op(api.OpSub, testtrees.Num(2), neg(testtrees.Num(-3))),
		"-2 - 3":                         testtrees.Op(api.OpSub, testtrees.Num(-2), testtrees.Num(3)),
		"x - 3":                          testtrees.Op(api.OpSub, x, testtrees.Num(3)),
		"x[1]-3":                         testtrees.Op(api.OpSub, testtrees.Element("x", testtrees.Num(1)), testtrees.Num(3)),
		"(2)-3":                          testtrees.Op(api.OpSub, testtrees.Num(2), testtrees.Num(3)),
		"2 - -9223372036854775808":       testtrees.Op(api.OpSub, testtrees.Num(2), smallest),
		"2 * -3":                         testtrees.Op(api.OpMul, testtrees.Num(2), testtrees.Num(-3)),
		"-2 * 3":                         testtrees.Op(api.OpMul, testtrees.Num(-2), testtrees.Num(3)),
		"~-5":                            testtrees.Op(api.OpNot, testtrees.Num(-5)),
		"-~5":                            neg(testtrees.Op(api.OpNot, testtrees.Num(5))),
		"!-5":                            testtrees.Op(api.OpEq, testtrees.Num(-5), testtrees.Num(0)),
		"-!5":                            neg(testtrees.Op(api.OpEq, testtrees.Num(5), testtrees.Num(0))),
		"~-9223372036854775808":          testtrees.Op(api.OpNot, smallest),
		"x ? -1 : -9223372036854775808":  testtrees.Cond(x, testtrees.Num(-1), smallest),
		"-9223372036854775808 ? -1 : -0": testtrees.Cond(smallest, testtrees.Num(-1), testtrees.Num(0)),
	} {
		checkExpression(t, text, want)
	}
}

func TestSmallestWordNeedsItsMinus(t *testing.T) {
	for _, marked := range []string{"@N", "1 - @N", "x - @N", "x[1] - @N", "(1) - @N", "-(@N)", "(@N)", "~@N", "!@N", "1 + @N", "-1 - @N", "-x - @N", "x[@N]", "-x[@N]", "@N - 1", "@N ? 1 : 2", "1 ? @N : 2", "1 ? 2 : @N"} {
		checkMarkedExpression(t, strings.ReplaceAll(marked, "N", "9223372036854775808"))
	}
	for _, marked := range []string{"x = @N;", "x[@N] = 1;", "x[1] = @N;", "x = g(@N);", "x = g(1, @N);", "out @N;", "if (@N) { }", "while (@N) { }", "trap @N;"} {
		checkMarkedStatements(t, strings.ReplaceAll(marked, "N", "9223372036854775808"))
	}
}

// Promise 3.2: the prefix operators.

func TestPrefixOperators(t *testing.T) {
	x := testtrees.Var("x")
	neg := func(e api.Expr) api.Expr { return testtrees.Op(api.OpNeg, e) }
	not := func(e api.Expr) api.Expr { return testtrees.Op(api.OpNot, e) }
	isZero := func(e api.Expr) api.Expr { return testtrees.Op(api.OpEq, e, testtrees.Num(0)) }
	for text, want := range map[string]api.Expr{
		"-x": neg(x), "~x": not(x), "!x": isZero(x), "~5": not(testtrees.Num(5)), "!5": isZero(testtrees.Num(5)), "!0": isZero(testtrees.Num(0)), "~0": not(testtrees.Num(0)),
		"--x": neg(neg(x)), "~~x": not(not(x)), "!!x": isZero(isZero(x)), "! ! !x": isZero(isZero(isZero(x))),
		"-~!x": neg(not(isZero(x))), "!~-x": isZero(not(neg(x))), "~-x": not(neg(x)),
		"-(x)": neg(x), "~(x)": not(x), "!(x)": isZero(x),
		"-(x + 1)": neg(testtrees.Op(api.OpAdd, x, testtrees.Num(1))), "!(x == 0)": isZero(isZero(x)), "~(x ? 1 : 2)": not(testtrees.Cond(x, testtrees.Num(1), testtrees.Num(2))),
		"-x[1]": neg(testtrees.Element("x", testtrees.Num(1))), "~x[1]": not(testtrees.Element("x", testtrees.Num(1))), "!x[1]": isZero(testtrees.Element("x", testtrees.Num(1))),
		"-x ? ~x : !x": testtrees.Cond(neg(x), not(x), isZero(x)),
		"!x == 0":      isZero(isZero(x)), "!x != x": testtrees.Op(api.OpNe, isZero(x), x), "x !=!x": testtrees.Op(api.OpNe, x, isZero(x)),
	} {
		checkExpression(t, text, want)
	}
	for _, marked := range []string{"x @! x", "x @~ x", "x @!", "x @~", "x -@", "-@", "~@", "!@", "-@* x", "~@)", "@+x"} {
		checkMarkedExpression(t, marked)
	}
}

func TestPrefixOperatorsBindMoreThanBinaryOnes(t *testing.T) {
	a, b := testtrees.Var("a"), testtrees.Var("b")
	prefixes := map[string]func(api.Expr) api.Expr{
		"-": func(e api.Expr) api.Expr { return testtrees.Op(api.OpNeg, e) },
		"~": func(e api.Expr) api.Expr { return testtrees.Op(api.OpNot, e) },
		"!": func(e api.Expr) api.Expr { return testtrees.Op(api.OpEq, e, testtrees.Num(0)) },
	}
	for prefix, apply := range prefixes {
		for _, symbol := range binarySymbols() {
			checkExpression(t, prefix+"a "+symbol+" b", binary(symbol, apply(a), b))
			checkExpression(t, "a "+symbol+" "+prefix+"b", binary(symbol, a, apply(b)))
			checkExpression(t, prefix+"(a "+symbol+" b)", apply(binary(symbol, a, b)))
		}
	}
}

// Promise 3.2: the binary operators.

func TestEachBinaryOperator(t *testing.T) {
	a, b := testtrees.Var("a"), testtrees.Var("b")
	for text, want := range map[string]api.Expr{
		"a | b": testtrees.Op(api.OpOr, a, b), "a ^ b": testtrees.Op(api.OpXor, a, b), "a & b": testtrees.Op(api.OpAnd, a, b),
		"a == b": testtrees.Op(api.OpEq, a, b), "a != b": testtrees.Op(api.OpNe, a, b),
		"a < b": testtrees.Op(api.OpLt, a, b), "a <= b": testtrees.Op(api.OpLe, a, b), "a > b": testtrees.Op(api.OpLt, b, a), "a >= b": testtrees.Op(api.OpLe, b, a),
		"a << b": testtrees.Op(api.OpShl, a, b), "a >> b": testtrees.Op(api.OpSar, a, b), "a >>> b": testtrees.Op(api.OpShr, a, b),
		"a + b": testtrees.Op(api.OpAdd, a, b), "a - b": testtrees.Op(api.OpSub, a, b),
		"a * b": testtrees.Op(api.OpMul, a, b), "a / b": testtrees.Op(api.OpDiv, a, b), "a % b": testtrees.Op(api.OpRem, a, b),
	} {
		checkExpression(t, text, want)
		checkExpression(t, strings.ReplaceAll(text, " ", ""), want)
	}
	for _, symbol := range binarySymbols() {
		checkMarkedExpression(t, "a "+symbol+" @")
		if symbol != "-" {
			checkMarkedExpression(t, "@"+symbol+" a")
			checkMarkedExpression(t, "a "+symbol+" @"+symbol+" a")
		}
	}
	for _, marked := range []string{"a @= b", "a @= = b", "a @! = b", "a &@& b", "a |@| b", "a <@> b", "a +@+ b", "a < @= b", "a > @> b", "a >> @> b", "a >>> @> b", "a > @>> b", "a >>@= b"} {
		checkMarkedExpression(t, marked)
	}
}

// grouped returns the tree of operands with symbols between them: the operator that is applied last is the last one of the lowest level.
func grouped(operands []api.Expr, symbols []string) api.Expr {
	if len(symbols) == 0 {
		return operands[0]
	}
	last := 0
	for i, symbol := range symbols {
		if levelOf(symbol) <= levelOf(symbols[last]) {
			last = i
		}
	}
	return binary(symbols[last], grouped(operands[:last+1], symbols[:last]), grouped(operands[last+1:], symbols[last+1:]))
}

func TestPairsOfBinaryOperators(t *testing.T) {
	a, b, c := testtrees.Var("a"), testtrees.Var("b"), testtrees.Var("c")
	for _, first := range binarySymbols() {
		for _, second := range binarySymbols() {
			left, right := binary(second, binary(first, a, b), c), binary(first, a, binary(second, b, c))
			want := left
			if levelOf(first) < levelOf(second) {
				want = right
			}
			checkExpression(t, "a "+first+" b "+second+" c", want)
			checkExpression(t, "(a "+first+" b) "+second+" c", left)
			checkExpression(t, "a "+first+" (b "+second+" c)", right)
		}
	}
}

func TestTriplesOfBinaryOperators(t *testing.T) {
	operands := []api.Expr{testtrees.Var("a"), testtrees.Element("b", testtrees.Num(1)), testtrees.Num(-2), testtrees.Var("d")}
	for _, first := range binarySymbols() {
		for _, second := range binarySymbols() {
			for _, third := range binarySymbols() {
				symbols := []string{first, second, third}
				checkExpression(t, "a "+first+" b[1] "+second+" -2 "+third+" d", grouped(operands, symbols))
			}
		}
	}
}

func TestLongChains(t *testing.T) {
	for _, symbol := range binarySymbols() {
		text, want := "x", testtrees.Var("x")
		for i := range int64(100) {
			text += symbol + "1" + strings.Repeat("0", int(i%5))
			want = binary(symbol, want, testtrees.Num([]int64{1, 10, 100, 1000, 10000}[i%5]))
		}
		checkExpression(t, text, want)
	}
	// From the lowest level to the highest, and back.
	symbols := []string{"|", "^", "&", "!=", ">=", ">>>", "-", "%", "/", "+", "<<", "<", "==", "&", "^", "|"}
	text, operands := "0", []api.Expr{testtrees.Num(0)}
	for i, symbol := range symbols {
		text += " " + symbol + " " + "abcdefghijklmnop"[i:i+1]
		operands = append(operands, testtrees.Var("abcdefghijklmnop"[i:i+1]))
	}
	checkExpression(t, text, grouped(operands, symbols))
}

// Promise 3.2: conditional expressions.

func TestConditionalExpressions(t *testing.T) {
	a, b, c, d, e := testtrees.Var("a"), testtrees.Var("b"), testtrees.Var("c"), testtrees.Var("d"), testtrees.Var("e")
	for text, want := range map[string]api.Expr{
		"a ? b : c":                     testtrees.Cond(a, b, c),
		"a?b:c":                         testtrees.Cond(a, b, c),
		"(a) ? (b) : (c)":               testtrees.Cond(a, b, c),
		"a ? b : c ? d : e":             testtrees.Cond(a, b, testtrees.Cond(c, d, e)),
		"a ? b : (c ? d : e)":           testtrees.Cond(a, b, testtrees.Cond(c, d, e)),
		"(a ? b : c) ? d : e":           testtrees.Cond(testtrees.Cond(a, b, c), d, e),
		"a ? b ? c : d : e":             testtrees.Cond(a, testtrees.Cond(b, c, d), e),
		"a ? (b ? c : d) : e":           testtrees.Cond(a, testtrees.Cond(b, c, d), e),
		"a ? b ? 1 : 2 : c ? 3 : 4":     testtrees.Cond(a, testtrees.Cond(b, testtrees.Num(1), testtrees.Num(2)), testtrees.Cond(c, testtrees.Num(3), testtrees.Num(4))),
		"(a ? 1 : 2) ? b ? 3 : 4 : 5":   testtrees.Cond(testtrees.Cond(a, testtrees.Num(1), testtrees.Num(2)), testtrees.Cond(b, testtrees.Num(3), testtrees.Num(4)), testtrees.Num(5)),
		"a ? b ? c ? 1 : 2 : 3 : 4":     testtrees.Cond(a, testtrees.Cond(b, testtrees.Cond(c, testtrees.Num(1), testtrees.Num(2)), testtrees.Num(3)), testtrees.Num(4)),
		"a ? 1 : b ? 2 : c ? 3 : 4":     testtrees.Cond(a, testtrees.Num(1), testtrees.Cond(b, testtrees.Num(2), testtrees.Cond(c, testtrees.Num(3), testtrees.Num(4)))),
		"((a ? 1 : b) ? 2 : c) ? 3 : 4": testtrees.Cond(testtrees.Cond(testtrees.Cond(a, testtrees.Num(1), b), testtrees.Num(2), c), testtrees.Num(3), testtrees.Num(4)),
		"x[a ? b : c] ? d : e":          testtrees.Cond(testtrees.Element("x", testtrees.Cond(a, b, c)), d, e),
		"-a ? -b : -1":                  testtrees.Cond(testtrees.Op(api.OpNeg, a), testtrees.Op(api.OpNeg, b), testtrees.Num(-1)),
		"-(a ? b : c)":                  testtrees.Op(api.OpNeg, testtrees.Cond(a, b, c)),
	} {
		checkExpression(t, text, want)
	}
	for _, marked := range []string{
		"a ? b@", "a ? @: c", "a ? b : @", "a @: b", "@? a : b", "a ? b : c @: d", "a ? b @, c", "a ? (b @: c)", "(a ? b@) : c", "a ? @? b : c : d", "a ? b ? c : d@", "(a ? b : c @: d)", "x[a ? b@]",
	} {
		checkMarkedExpression(t, marked)
	}
}

func TestConditionalExpressionsBindLeast(t *testing.T) {
	a, b, c, d := testtrees.Var("a"), testtrees.Var("b"), testtrees.Var("c"), testtrees.Var("d")
	for _, symbol := range binarySymbols() {
		checkExpression(t, "a "+symbol+" b ? c : d", testtrees.Cond(binary(symbol, a, b), c, d))
		checkExpression(t, "a ? b "+symbol+" c : d", testtrees.Cond(a, binary(symbol, b, c), d))
		checkExpression(t, "a ? b : c "+symbol+" d", testtrees.Cond(a, b, binary(symbol, c, d)))
		checkExpression(t, "a "+symbol+" (b ? c : d)", binary(symbol, a, testtrees.Cond(b, c, d)))
		checkExpression(t, "(a ? b : c) "+symbol+" d", binary(symbol, testtrees.Cond(a, b, c), d))
	}
}

// Promise 3.2, in each place of a program that has an expression.

func TestPlacesOfExpressions(t *testing.T) {
	text, want := "a | 1 ? -b[2] : !c >= 3", testtrees.Cond(testtrees.Op(api.OpOr, testtrees.Var("a"), testtrees.Num(1)), testtrees.Op(api.OpNeg, testtrees.Element("b", testtrees.Num(2))), testtrees.Op(api.OpLe, testtrees.Num(3), testtrees.Op(api.OpEq, testtrees.Var("c"), testtrees.Num(0))))
	for place, stmt := range map[string]api.Stmt{
		"x = E;":        {Kind: api.StmtAssign, Name: "x", Value: want},
		"x[E] = 1;":     {Kind: api.StmtStore, Name: "x", At: want, Value: testtrees.Num(1)},
		"x[1] = E;":     {Kind: api.StmtStore, Name: "x", At: testtrees.Num(1), Value: want},
		"x = g(E);":     {Kind: api.StmtCall, Name: "x", To: "g", Args: []api.Expr{want}},
		"x = g(1, E);":  {Kind: api.StmtCall, Name: "x", To: "g", Args: []api.Expr{testtrees.Num(1), want}},
		"x = g(E, E);":  {Kind: api.StmtCall, Name: "x", To: "g", Args: []api.Expr{want, want}},
		"out E;":        {Kind: api.StmtOut, Value: want},
		"if (E) { }":    {Kind: api.StmtIf, Value: want},
		"while (E) { }": {Kind: api.StmtWhile, Value: want},
	} {
		checkStatements(t, strings.ReplaceAll(place, "E", text), stmt)
		checkStatements(t, strings.ReplaceAll(place, "E", "("+text+")"), stmt)
	}
	checkExpression(t, text, want)
	checkExpression(t, "x["+text+"]", testtrees.Element("x", want))
	checkExpression(t, "("+text+")", want)
}

// Promise 3.3: the depth of expressions and statements is not limited, except by the length of the text.

// filled returns before, the repeated opening and closing parts around the middle, and after, with as many repetitions as a text may have.
func filled(before, open, middle, closing, after string) (string, int) {
	n := (api.MaxText - len(before+middle+after)) / len(open+closing)
	return before + strings.Repeat(open, n) + middle + strings.Repeat(closing, n) + after, n
}

// depth returns how many nodes enclose the innermost node that is reached through the kids at place kid, and that node.
func depth(e api.Expr, kid int) (int, api.Expr) {
	n := 0
	for ; len(e.Kids) > 0; n++ {
		e = e.Kids[kid]
	}
	return n, e
}

func TestDeepExpressions(t *testing.T) {
	for _, c := range []struct {
		open, closing string
		nodes, kid    int // how many nodes each repetition adds, and which kid of a node the next one is
		innermost     api.Expr
	}{
		{"(", ")", 0, 0, testtrees.Var("a")}, {"-", "", 1, 0, testtrees.Var("a")}, {"~", "", 1, 0, testtrees.Var("a")}, {"!", "", 1, 0, testtrees.Var("a")},
		{"-~!", "", 3, 0, testtrees.Var("a")}, {"-(", ")", 1, 0, testtrees.Var("a")}, {"x[", "]", 1, 0, testtrees.Var("a")}, {"-x[(", ")]", 2, 0, testtrees.Var("a")},
		{"1-", "", 1, 0, testtrees.Num(1)}, {"1*", "", 1, 0, testtrees.Num(1)}, {"1+(", ")", 1, 1, testtrees.Var("a")}, {"1>(", ")", 1, 0, testtrees.Var("a")}, {"(", "*1)", 1, 0, testtrees.Var("a")},
		{"1?1:", "", 1, 2, testtrees.Var("a")}, {"1?", ":1", 1, 1, testtrees.Var("a")}, {"1?1:(", ")", 1, 2, testtrees.Var("a")}, {"(", "?1:1)", 1, 0, testtrees.Var("a")},
	} {
		text, n := filled("func f(){return ", c.open, "a", c.closing, ";}")
		p, err := parser.Parse(text)
		if err != (api.Err{}) {
			t.Errorf("Parse(%.40q) = %v", text, err)
			continue
		}
		got, innermost := depth(p.Funcs[0].Value, c.kid)
		if got != n*c.nodes || !testtrees.EqualExprs(innermost, c.innermost) {
			t.Errorf("Parse(%.40q): depth %d, want %d; the innermost node is %v", text, got, n*c.nodes, innermost)
		}
	}
}

func TestDeepStatements(t *testing.T) {
	then := func(s api.Stmt) []api.Stmt { return s.Then }
	otherwise := func(s api.Stmt) []api.Stmt { return s.Else }
	for open, inner := range map[string]func(api.Stmt) []api.Stmt{"if(1){": then, "while(1){": then, "if(1){}else{": otherwise} {
		text, n := filled("func f(){", open, "", "}", "return 0;}")
		p, err := parser.Parse(text)
		if err != (api.Err{}) {
			t.Errorf("Parse(%.40q) = %v", text, err)
			continue
		}
		got := 0
		for body := p.Funcs[0].Body; len(body) > 0; got++ {
			body = inner(body[0])
		}
		if got != n {
			t.Errorf("Parse(%.40q): depth %d, want %d", text, got, n)
		}
	}
}

func TestDeepTextsThatEndTooEarly(t *testing.T) {
	for _, open := range []string{"(", "-", "!", "~", "x[", "1?", "1?1:", "1+("} {
		text, _ := filled("func f(){return ", open, "", "", "")
		checkError(t, text, api.ErrSyntax, len(text))
	}
	for _, open := range []string{"if(1){", "while(1){", "if(1){}else{"} {
		text, _ := filled("func f(){", open, "", "", "")
		checkError(t, text, api.ErrSyntax, len(text))
	}
}
