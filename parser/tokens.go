package parser

import "fulling/api"

// parser goes through the tokens of a text from left to right.
//
// The first failure is final: it drops the remaining tokens. The parsing functions therefore need not look for errors, as long as each of their loops and each recursion goes on only after a token has been accepted: without tokens, all of them return at once, and what they return is not used.
type parser struct {
	tokens []api.Token // those that have not been accepted yet
	end    int         // the length of the text, where an error is reported when no token is left
	err    api.Err
}

// first returns the next token, or the zero token, which has no Kind, if none is left.
func (p *parser) first() api.Token {
	if len(p.tokens) == 0 {
		return api.Token{}
	}
	return p.tokens[0]
}

func (p *parser) advance() {
	p.tokens = p.tokens[1:]
}

// fail reports that the next token, or the end of the text, cannot continue the program.
func (p *parser) fail() {
	if p.err.Why != api.OK {
		return
	}
	p.err = api.Err{Why: api.ErrSyntax, At: p.end}
	if len(p.tokens) > 0 {
		p.err.At = p.tokens[0].At
	}
	p.tokens = nil
}

// accept skips the next token if it is the given symbol or reserved word. The text suffices to tell them, because no token of another kind has it.
func (p *parser) accept(text string) bool {
	if p.first().Text != text {
		return false
	}
	p.advance()
	return true
}

func (p *parser) expect(text string) {
	if !p.accept(text) {
		p.fail()
	}
}

func (p *parser) name() string {
	token := p.first()
	if !isName(token) {
		p.fail()
		return ""
	}
	p.advance()
	return token.Text
}

func isName(token api.Token) bool {
	return token.Kind == api.TokenName && !isReserved(token.Text)
}

func isReserved(text string) bool {
	switch text {
	case "array", "func", "var", "return", "if", "else", "while", "out", "trap":
		return true
	}
	return false
}
