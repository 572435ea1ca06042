package printer_test

import (
	"strings"
	"testing"

	"fulling/api"
	"fulling/checker"
	"fulling/printer"
	"fulling/testtrees"
)

// Promise 5.2: expressions.

const (
	smallest = -1 << 63
	largest  = 1<<63 - 1
)

// part is an expression with its text, and its text where it is an operand.
type part struct {
	e             api.Expr
	text, operand string
}

// plain and compound return a part that is no operation or conditional expression, and one that is.
func plain(e api.Expr, text string) part { return part{e, text, text} }

func compound(e api.Expr, text string) part { return part{e, text, "(" + text + ")"} }

// binarySymbols lists the operators of the binary operations that an expression can have.
func binarySymbols() map[int]string {
	return map[int]string{
		api.OpAdd: "+", api.OpSub: "-", api.OpMul: "*", api.OpDiv: "/", api.OpRem: "%", api.OpAnd: "&", api.OpOr: "|", api.OpXor: "^",
		api.OpShl: "<<", api.OpShr: ">>>", api.OpSar: ">>", api.OpEq: "==", api.OpNe: "!=", api.OpLt: "<", api.OpLe: "<=",
	}
}

// parts returns expressions of every kind.
func parts() []part {
	a, b, one := testtrees.Var("a"), testtrees.Var("b"), testtrees.Num(1)
	result := []part{
		plain(testtrees.Num(0), "0"), plain(one, "1"), plain(testtrees.Num(-1), "-1"), plain(testtrees.Num(1000), "1000"),
		plain(testtrees.Num(largest), "9223372036854775807"), plain(testtrees.Num(-largest), "-9223372036854775807"), plain(testtrees.Num(smallest), "-9223372036854775808"),
		plain(a, "a"), plain(b, "b"),
		plain(testtrees.Element("x", one), "x[1]"), plain(testtrees.Element("y", a), "y[a]"), plain(testtrees.Element("x", testtrees.Num(smallest)), "x[-9223372036854775808]"), plain(testtrees.Element("y", testtrees.Num(largest)), "y[9223372036854775807]"),
		plain(testtrees.Element("x", testtrees.Element("y", b)), "x[y[b]]"),
		plain(testtrees.Element("x", testtrees.Op(api.OpAdd, a, one)), "x[a + 1]"), plain(testtrees.Element("x", testtrees.Op(api.OpNeg, a)), "x[-a]"), plain(testtrees.Element("x", testtrees.Cond(a, b, one)), "x[a ? b : 1]"),
		compound(testtrees.Op(api.OpNeg, a), "-a"), compound(testtrees.Op(api.OpNot, a), "~a"), compound(testtrees.Op(api.OpNeg, one), "-(1)"), compound(testtrees.Op(api.OpNot, one), "~1"),
		compound(testtrees.Cond(a, b, one), "a ? b : 1"), compound(testtrees.Cond(one, testtrees.Num(-2), testtrees.Element("x", a)), "1 ? -2 : x[a]"),
	}
	for op, symbol := range binarySymbols() {
		result = append(result, compound(testtrees.Op(op, a, one), "a "+symbol+" 1"))
	}
	return result
}

func TestParts(t *testing.T) {
	for _, p := range parts() {
		checkExpression(t, p.e, p.text)
	}
}

// TestNumbers prints words as values, as indices and as operands.
func TestNumbers(t *testing.T) {
	for text, n := range map[string]int64{
		"0": 0, "1": 1, "-1": -1, "9": 9, "10": 10, "-10": -10, "4294967296": 1 << 32, "-4294967297": -1<<32 - 1, "9223372036854775807": largest, "9223372036854775806": largest - 1, "-9223372036854775808": smallest, "-9223372036854775807": smallest + 1,
	} {
		num := testtrees.Num(n)
		checkExpression(t, num, text)
		checkExpression(t, testtrees.Element("x", num), "x["+text+"]")
		checkExpression(t, testtrees.Op(api.OpSub, num, num), text+" - "+text)
		checkExpression(t, testtrees.Op(api.OpNeg, num), "-("+text+")")
		checkExpression(t, testtrees.Op(api.OpNot, num), "~"+text)
		checkExpression(t, testtrees.Cond(num, num, num), text+" ? "+text+" : "+text)
	}
}

func TestNames(t *testing.T) {
	for _, name := range []string{"v", "_", "__", "V9", "abcdefghijklmnop", "iff", "Return", "out1"} {
		f := api.Func{Name: name, Params: []string{name}, Body: body(testtrees.Call(name, name, testtrees.Var(name)), testtrees.Assign(name, testtrees.Var(name))), Value: testtrees.Op(api.OpMul, testtrees.Var(name), testtrees.Num(2))}
		checkPrint(t, api.Program{Funcs: []api.Func{f}}, strings.ReplaceAll("func @(@) {\n  @ = @(@);\n  @ = @;\n  return @ * 2;\n}\n", "@", name))
		g := api.Func{Name: name, Body: body(testtrees.Store(name, testtrees.Num(1), testtrees.Num(2))), Value: testtrees.Element(name, testtrees.Num(3))}
		checkPrint(t, api.Program{Arrays: []api.Array{{Name: name, Len: 1}}, Funcs: []api.Func{g}}, strings.ReplaceAll("array @ 1;\nfunc @() {\n  @[1] = 2;\n  return @[3];\n}\n", "@", name))
	}
}

func TestElements(t *testing.T) {
	for _, p := range parts() {
		checkExpression(t, testtrees.Element("x", p.e), "x["+p.text+"]")
		checkExpression(t, testtrees.Element("y", testtrees.Element("x", p.e)), "y[x["+p.text+"]]")
	}
}

func TestBinaryOperations(t *testing.T) {
	for op, symbol := range binarySymbols() {
		for _, left := range parts() {
			for _, right := range parts() {
				e := testtrees.Op(op, left.e, right.e)
				want := left.operand + " " + symbol + " " + right.operand
				checkPrint(t, withBody(testtrees.Out(e)), linesWithBody("  out "+want+";"))
			}
		}
		checkExpression(t, testtrees.Op(op, testtrees.Var("a"), testtrees.Var("b")), "a "+symbol+" b")
	}
}

// TestComparisonsAreNotTurned has texts with operators that are never printed.
func TestComparisonsAreNotTurned(t *testing.T) {
	for text, want := range map[string]string{"a > b": "b < a", "a >= b": "b <= a", "!a": "a == 0", "!-1": "-1 == 0", "!!a": "(a == 0) == 0", "a < b": "a < b", "b <= a": "b <= a"} {
		checkPrint(t, testtrees.MustParse(t, "func f(a,b){return "+text+";}"), "func f(a, b) {\n  return "+want+";\n}\n")
	}
}

func TestUnaryOperations(t *testing.T) {
	for _, p := range parts() {
		negated := "-" + p.operand
		if p.e.Kind == api.ExprNum {
			negated = "-(" + p.text + ")"
		}
		checkExpression(t, testtrees.Op(api.OpNeg, p.e), negated)
		checkExpression(t, testtrees.Op(api.OpNot, p.e), "~"+p.operand)
		checkExpression(t, testtrees.Op(api.OpNot, testtrees.Op(api.OpNeg, p.e)), "~("+negated+")")
		checkExpression(t, testtrees.Op(api.OpNeg, testtrees.Op(api.OpNeg, p.e)), "-("+negated+")")
		checkExpression(t, testtrees.Op(api.OpSub, testtrees.Op(api.OpNeg, p.e), testtrees.Op(api.OpNot, p.e)), "("+negated+") - (~"+p.operand+")")
	}
}

func TestConditionalExpressions(t *testing.T) {
	for _, p := range parts() {
		for _, q := range parts() {
			for want, e := range map[string]api.Expr{
				p.operand + " ? " + q.operand + " : b":         testtrees.Cond(p.e, q.e, testtrees.Var("b")),
				p.operand + " ? b : " + q.operand:              testtrees.Cond(p.e, testtrees.Var("b"), q.e),
				"-1 ? " + p.operand + " : " + q.operand:        testtrees.Cond(testtrees.Num(-1), p.e, q.e),
				"(b ? " + p.operand + " : 2) + " + q.operand:   testtrees.Op(api.OpAdd, testtrees.Cond(testtrees.Var("b"), p.e, testtrees.Num(2)), q.e),
				"~(" + p.operand + " ? 0 : " + q.operand + ")": testtrees.Op(api.OpNot, testtrees.Cond(p.e, testtrees.Num(0), q.e)),
			} {
				checkPrint(t, withBody(testtrees.Out(e)), linesWithBody("  out "+want+";"))
			}
		}
	}
}

// layer is a node around another: the tree, and the text of the whole.
type layer struct {
	around func(api.Expr) api.Expr
	text   func(inside string) string
}

func layers() []layer {
	a, b := testtrees.Var("a"), testtrees.Var("b")
	inText := func(before, behind string) func(string) string {
		return func(inside string) string { return before + inside + behind }
	}
	result := []layer{
		{func(e api.Expr) api.Expr { return testtrees.Op(api.OpNeg, e) }, inText("-(", ")")},
		{func(e api.Expr) api.Expr { return testtrees.Op(api.OpNot, e) }, inText("~(", ")")},
		{func(e api.Expr) api.Expr { return testtrees.Cond(e, a, b) }, inText("(", ") ? a : b")},
		{func(e api.Expr) api.Expr { return testtrees.Cond(a, e, b) }, inText("a ? (", ") : b")},
		{func(e api.Expr) api.Expr { return testtrees.Cond(a, b, e) }, inText("a ? b : (", ")")},
	}
	for op, symbol := range binarySymbols() {
		result = append(result,
			layer{func(e api.Expr) api.Expr { return testtrees.Op(op, e, b) }, inText("(", ") "+symbol+" b")},
			layer{func(e api.Expr) api.Expr { return testtrees.Op(op, a, e) }, inText("a "+symbol+" (", ")")},
		)
	}
	return result
}

// TestGreatestDepthOfExpressions prints nodes that are nested in as many others as Check allows.
func TestGreatestDepthOfExpressions(t *testing.T) {
	innermost := compound(testtrees.Op(api.OpXor, testtrees.Var("b"), testtrees.Num(-3)), "b ^ -3")
	for _, l := range layers() {
		e := testtrees.Nested(api.MaxDeep-1, innermost.e, l.around)
		checkExpression(t, e, testtrees.Nested(api.MaxDeep-1, innermost.text, l.text))
	}
	indices := testtrees.Nested(api.MaxDeep, testtrees.Num(smallest), func(e api.Expr) api.Expr { return testtrees.Element("x", e) })
	checkExpression(t, indices, strings.Repeat("x[", api.MaxDeep)+"-9223372036854775808"+strings.Repeat("]", api.MaxDeep))
	unary := testtrees.Nested(api.MaxDeep, testtrees.Num(5), func(e api.Expr) api.Expr { return testtrees.Op(api.OpNeg, e) })
	checkExpression(t, unary, strings.Repeat("-(", api.MaxDeep)+"5"+strings.Repeat(")", api.MaxDeep))
}

// TestMixedLayers nests different nodes in each other.
func TestMixedLayers(t *testing.T) {
	numbers, all := testtrees.Numbers(5), layers()
	for range 2000 {
		e, want := testtrees.Cond(testtrees.Var("a"), testtrees.Num(1), testtrees.Num(-1)), "a ? 1 : -1"
		for range numbers.Below(api.MaxDeep) {
			l := testtrees.OneOf(&numbers, all...)
			e, want = l.around(e), l.text(want)
		}
		checkPrint(t, withBody(testtrees.Out(e)), linesWithBody("  out "+want+";"))
	}
}

// TestTextsLongerThanMaxText prints full trees, whose texts double with each level. The length of a text is not limited.
func TestTextsLongerThanMaxText(t *testing.T) {
	e, want := testtrees.Op(api.OpAdd, testtrees.Var("a"), testtrees.Num(1)), "a + 1"
	for range api.MaxDeep - 1 {
		e, want = testtrees.Op(api.OpMul, e, e), "("+want+") * ("+want+")"
	}
	p := withBody(testtrees.Out(e))
	if why := checker.Check(p); why != api.OK {
		t.Fatalf("wrong test: error %d", why)
	}
	if got := printer.Print(p); got != linesWithBody("  out "+want+";") {
		t.Errorf("a text of %d bytes is wrong", len(got))
	}
}
