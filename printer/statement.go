package printer

import (
	"fulling/api"
	"fulling/word"
)

func (w *writer) statements(list []api.Stmt, level int) {
	for _, s := range list {
		w.indent(level)
		w.statement(s, level)
	}
}

// statement expects its first line to be indented already.
func (w *writer) statement(s api.Stmt, level int) {
	switch s.Kind {
	case api.StmtAssign:
		w.write(s.Name, " = ")
		w.lastExpression(s.Value)
	case api.StmtStore:
		w.element(s.Name, s.At)
		w.write(" = ")
		w.lastExpression(s.Value)
	case api.StmtOut:
		w.write("out ")
		w.lastExpression(s.Value)
	case api.StmtCall:
		w.call(s)
	case api.StmtTrap:
		w.write("trap ", word.Text(int64(s.N)), ";\n")
	case api.StmtIf:
		w.compound("if", s, level)
	case api.StmtWhile:
		w.compound("while", s, level)
	}
}

// lastExpression ends a statement.
func (w *writer) lastExpression(e api.Expr) {
	w.expression(e)
	w.write(";\n")
}

func (w *writer) call(s api.Stmt) {
	w.write(s.Name, " = ", s.To, "(")
	for i, argument := range s.Args {
		if i > 0 {
			w.write(", ")
		}
		w.expression(argument)
	}
	w.write(");\n")
}

// compound writes an if or while statement. A while statement has no Else.
func (w *writer) compound(keyword string, s api.Stmt, level int) {
	w.write(keyword, " (")
	w.expression(s.Value)
	w.write(") {\n")
	w.statements(s.Then, level+1)
	if len(s.Else) > 0 {
		w.indent(level)
		w.write("} else {\n")
		w.statements(s.Else, level+1)
	}
	w.indent(level)
	w.write("}\n")
}
