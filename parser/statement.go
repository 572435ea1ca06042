package parser

import "fulling/api"

// statements parses as many statements as there are. What must follow them is for the caller to check.
func (p *parser) statements() []api.Stmt {
	var statements []api.Stmt
	for startsStatement(p.first()) {
		statements = append(statements, p.statement())
	}
	return statements
}

func startsStatement(token api.Token) bool {
	switch token.Text {
	case "if", "while", "out", "trap":
		return true
	}
	return isName(token)
}

func (p *parser) statement() api.Stmt {
	switch {
	case p.accept("if"):
		return p.ifStatement()
	case p.accept("while"):
		condition := p.condition()
		return api.Stmt{Kind: api.StmtWhile, Value: condition, Then: p.block()}
	case p.accept("out"):
		value := p.expression()
		p.expect(";")
		return api.Stmt{Kind: api.StmtOut, Value: value}
	case p.accept("trap"):
		code := p.num()
		p.expect(";")
		return api.Stmt{Kind: api.StmtTrap, N: code}
	}
	return p.changeOfName()
}

// ifStatement parses what follows the word "if".
func (p *parser) ifStatement() api.Stmt {
	result := api.Stmt{Kind: api.StmtIf, Value: p.condition()}
	result.Then = p.block()
	if p.accept("else") {
		result.Else = p.block()
	}
	return result
}

// condition parses the parenthesized expression of an if or while statement.
func (p *parser) condition() api.Expr {
	p.expect("(")
	value := p.expression()
	p.expect(")")
	return value
}

func (p *parser) block() []api.Stmt {
	p.expect("{")
	statements := p.statements()
	p.expect("}")
	return statements
}

// changeOfName parses the three statements that start with a name: assignment, call and store.
func (p *parser) changeOfName() api.Stmt {
	result := api.Stmt{Name: p.name()}
	isStore := p.accept("[")
	if isStore {
		result.At = p.expression()
		p.expect("]")
	}
	p.expect("=")
	switch {
	case isStore:
		result.Kind = api.StmtStore
		result.Value = p.expression()
	case p.startsCall():
		result.Kind = api.StmtCall
		result.To = p.name()
		result.Args = parenthesizedList(p, p.expression)
	default:
		result.Kind = api.StmtAssign
		result.Value = p.expression()
	}
	p.expect(";")
	return result
}

// startsCall needs the second token as well: only the parenthesis distinguishes the called function from a variable.
func (p *parser) startsCall() bool {
	return len(p.tokens) >= 2 && isName(p.tokens[0]) && p.tokens[1].Text == "("
}
