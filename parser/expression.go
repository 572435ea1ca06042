package parser

import (
	"fulling/api"
	"fulling/word"
)

// binaryOperator describes a binary operator of the source language.
type binaryOperator struct {
	symbol  string
	level   int // a higher one binds more tightly
	op      int
	swapped bool // the right operand becomes the first kid, because there is no operation for this order
}

// lowestLevel is the level of the operators that bind least, noLevel that of all other tokens.
const (
	noLevel     = 0
	lowestLevel = 1
)

var binaryOperators = [...]binaryOperator{
	{"|", lowestLevel, api.OpOr, false},
	{"^", 2, api.OpXor, false},
	{"&", 3, api.OpAnd, false},
	{"==", 4, api.OpEq, false},
	{"!=", 4, api.OpNe, false},
	{"<", 5, api.OpLt, false},
	{"<=", 5, api.OpLe, false},
	{">", 5, api.OpLt, true},
	{">=", 5, api.OpLe, true},
	{"<<", 6, api.OpShl, false},
	{">>", 6, api.OpSar, false},
	{">>>", 6, api.OpShr, false},
	{"+", 7, api.OpAdd, false},
	{"-", 7, api.OpSub, false},
	{"*", 8, api.OpMul, false},
	{"/", 8, api.OpDiv, false},
	{"%", 8, api.OpRem, false},
}

// operatorOf returns the binary operator that token is, or one of noLevel.
func operatorOf(token api.Token) binaryOperator {
	for _, operator := range binaryOperators {
		if operator.symbol == token.Text {
			return operator
		}
	}
	return binaryOperator{level: noLevel}
}

// applyTo returns the operation with the operands in the order of the text.
func (o binaryOperator) applyTo(left, right api.Expr) api.Expr {
	if o.swapped {
		left, right = right, left
	}
	return operation(o.op, left, right)
}

// expression parses an expression of the lowest precedence, a conditional expression.
// Its condition ends before the first "?", so that it can be conditional only in parentheses; both alternatives are expressions of any kind.
func (p *parser) expression() api.Expr {
	condition := p.binary(lowestLevel)
	if !p.accept("?") {
		return condition
	}
	then := p.expression()
	p.expect(":")
	otherwise := p.expression()
	return api.Expr{Kind: api.ExprCond, Kids: []api.Expr{condition, then, otherwise}}
}

// binary parses operators of the given level and above. The right operand of each consists of higher levels only, which makes all operators left-associative.
func (p *parser) binary(level int) api.Expr {
	result := p.prefixed()
	for {
		operator := operatorOf(p.first())
		if operator.level < level {
			return result
		}
		p.advance()
		result = operator.applyTo(result, p.binary(operator.level+1))
	}
}

func (p *parser) prefixed() api.Expr {
	switch {
	case p.accept("-"):
		return p.negative()
	case p.accept("~"):
		return operation(api.OpNot, p.prefixed())
	case p.accept("!"):
		return operation(api.OpEq, p.prefixed(), number(0))
	}
	return p.operand()
}

// negative parses what follows a prefix "-". A number there takes the sign as a part of it, because the smallest word is not the negation of another number.
func (p *parser) negative() api.Expr {
	token := p.first()
	if token.Kind != api.TokenNumber {
		return operation(api.OpNeg, p.prefixed())
	}
	p.advance()
	// The scanner lets no number above 9223372036854775808 pass. So only "-0" is not the text of a word, and it yields 0 nevertheless.
	n, _ := word.Parse("-" + token.Text)
	return number(n)
}

func (p *parser) operand() api.Expr {
	token := p.first()
	switch {
	case token.Kind == api.TokenNumber:
		return p.unsignedNumber()
	case isName(token):
		return p.variableOrElement()
	case p.accept("("):
		inner := p.expression()
		p.expect(")")
		return inner
	}
	p.fail()
	return api.Expr{}
}

// unsignedNumber rejects 9223372036854775808, the only number that the scanner accepts and that is no word.
func (p *parser) unsignedNumber() api.Expr {
	n, ok := word.Parse(p.first().Text)
	if !ok {
		p.fail()
		return api.Expr{}
	}
	p.advance()
	return number(n)
}

func (p *parser) variableOrElement() api.Expr {
	name := p.name()
	if !p.accept("[") {
		return api.Expr{Kind: api.ExprVar, Name: name}
	}
	index := p.expression()
	p.expect("]")
	return api.Expr{Kind: api.ExprIndex, Name: name, Kids: []api.Expr{index}}
}

func number(n int64) api.Expr {
	return api.Expr{Kind: api.ExprNum, N: n}
}

func operation(op int, kids ...api.Expr) api.Expr {
	return api.Expr{Kind: api.ExprOp, Op: op, Kids: kids}
}
