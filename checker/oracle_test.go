package checker_test

import (
	"strconv"
	"strings"
	"testing"

	"fulling/api"
	"fulling/checker"
	"fulling/parser"
	"fulling/testtrees"
)

// These tests compare Check with an oracle on programs that are made up and then changed in a few places.
//
// The oracle collects all errors of a program in one pass. Whether the program is the tree of a text, it finds out by writing a text and parsing it.

// inventor makes up programs, and changes them. Its choices follow a fixed sequence of numbers.
type inventor struct{ testtrees.Inventor }

// parts lists the places of a program that can be changed.
type parts struct {
	declared []*string // the names of arrays, functions and variables
	names    []*string
	stmts    []*api.Stmt
	bodies   []*[]api.Stmt
	exprs    []*api.Expr
	lists    []*[]api.Expr
}

func (p *parts) addProgram(program *api.Program) {
	for i := range program.Arrays {
		p.declared = append(p.declared, &program.Arrays[i].Name)
	}
	for i := range program.Funcs {
		f := &program.Funcs[i]
		p.declared = append(p.declared, &f.Name)
		for j := range f.Params {
			p.declared = append(p.declared, &f.Params[j])
		}
		for j := range f.Locals {
			p.declared = append(p.declared, &f.Locals[j])
		}
		p.addBody(&f.Body)
		p.addExpr(&f.Value)
	}
}

func (p *parts) addBody(body *[]api.Stmt) {
	p.bodies = append(p.bodies, body)
	for i := range *body {
		s := &(*body)[i]
		p.stmts = append(p.stmts, s)
		p.names = append(p.names, &s.Name, &s.To)
		p.addExpr(&s.At)
		p.addExpr(&s.Value)
		p.addList(&s.Args)
		p.addBody(&s.Then)
		p.addBody(&s.Else)
	}
}

func (p *parts) addExpr(e *api.Expr) {
	p.exprs = append(p.exprs, e)
	p.names = append(p.names, &e.Name)
	p.addList(&e.Kids)
}

func (p *parts) addList(list *[]api.Expr) {
	p.lists = append(p.lists, list)
	for i := range *list {
		p.addExpr(&(*list)[i])
	}
}

// change changes one place.
func (v *inventor) change(program *api.Program) {
	var p parts
	p.addProgram(program)
	switch v.Below(14) {
	case 0:
		*testtrees.OneOf(&v.Numbers, p.names...) = v.name()
	case 1:
		*testtrees.OneOf(&v.Numbers, p.exprs...) = v.Expr(2)
	case 2:
		testtrees.OneOf(&v.Numbers, p.exprs...).Kind = v.Below(8) - 1
	case 3:
		testtrees.OneOf(&v.Numbers, p.exprs...).Op = v.Below(25)
	case 4:
		testtrees.OneOf(&v.Numbers, p.exprs...).N = int64(v.Below(3) - 1)
	case 5:
		list := testtrees.OneOf(&v.Numbers, p.lists...)
		*list = append(*list, v.Expr(1))
	case 6:
		list := testtrees.OneOf(&v.Numbers, p.lists...)
		*list = (*list)[:len(*list)/2]
	case 7:
		body := testtrees.OneOf(&v.Numbers, p.bodies...)
		*body = append(*body, v.Stmt(1))
	case 8:
		program.Arrays[v.Below(2)].Len = testtrees.OneOf(&v.Numbers, 0, 1, 16, 17)
	case 9:
		*testtrees.OneOf(&v.Numbers, p.declared...) = v.name()
	case 10:
		v.rename(p)
	case 11:
		for _, s := range p.stmts {
			if s.Kind == api.StmtCall {
				s.Args = testtrees.OneOf(&v.Numbers, nil, s.Args[:len(s.Args)/2], append(s.Args, v.Expr(1)))
			}
		}
	case 12:
		if len(p.stmts) > 0 {
			v.changeStmt(testtrees.OneOf(&v.Numbers, p.stmts...))
		}
	case 13:
		e := testtrees.OneOf(&v.Numbers, p.exprs...)
		*e = testtrees.Nested(15+v.Below(7), *e, testtrees.OneOf(&v.Numbers, surroundings()...))
	}
}

// name returns a name that may have a meaning in the program, another name, or no name.
func (v *inventor) name() string {
	return testtrees.OneOf(&v.Numbers, "a", "b", "c", "x", "y", "f", "g", "h", "", "if", "1", "a ", "abcdefghijklmnopq")
}

// rename exchanges a name that is in use for another valid one.
func (v *inventor) rename(p parts) {
	if name := testtrees.OneOf(&v.Numbers, p.names...); *name != "" {
		*name = testtrees.OneOf(&v.Numbers, "a", "b", "c", "x", "y", "f", "g", "h")
	}
}

func (v *inventor) changeStmt(s *api.Stmt) {
	switch v.Below(3) {
	case 0:
		s.Kind = v.Below(10) - 1
	case 1:
		s.N = testtrees.OneOf(&v.Numbers, -1, 0, 1, 1_000_001)
	case 2:
		*s = testtrees.Nested(17+v.Below(5), *s, func(s api.Stmt) api.Stmt { return branch(nil, []api.Stmt{s}) })
	}
}

// oracle collects the errors of a program.
type oracle struct {
	found map[api.Errno]bool
}

func (o oracle) require(why api.Errno, holds bool) {
	if !holds {
		o.found[why] = true
	}
}

// height returns how many nodes the deepest node is nested in.
func height(e api.Expr) int {
	result := 0
	for _, kid := range e.Kids {
		result = max(result, 1+height(kid))
	}
	return result
}

// measure returns how many statements the deepest statement is nested in, and the numbers of statements and of loops.
func measure(body []api.Stmt) (levels, all, loopCount int) {
	levels = -1
	for _, s := range body {
		for _, inner := range [][]api.Stmt{s.Then, s.Else} {
			a, b, c := measure(inner)
			levels, all, loopCount = max(levels, a+1), all+b, loopCount+c
		}
		all++
		if s.Kind == api.StmtWhile {
			loopCount++
		}
	}
	return levels, all, loopCount
}

// definedNames maps the name of an array or function to its length or number of parameters.
type definedNames struct {
	arrays, functions map[string]int
	variables         map[string]bool
}

func (o oracle) program(p api.Program) {
	text := programText(p)
	back, err := parser.Parse(text)
	o.require(api.ErrSyntax, err.Why == api.OK && testtrees.EqualPrograms(back, p))
	o.require(api.ErrLimit, len(p.Arrays) <= 4 && len(p.Funcs) <= 8)
	d := definedNames{map[string]int{}, map[string]int{}, nil}
	for _, a := range p.Arrays {
		o.require(api.ErrLimit, 1 <= a.Len && a.Len <= 16)
		d.arrays[a.Name] = a.Len
	}
	for _, f := range p.Funcs {
		d.functions[f.Name] = len(f.Params)
	}
	o.require(api.ErrDuplicate, len(d.arrays) == len(p.Arrays) && len(d.functions) == len(p.Funcs))
	for _, f := range p.Funcs {
		o.function(f, d)
	}
}

func (o oracle) function(f api.Func, d definedNames) {
	d.variables = map[string]bool{}
	for _, list := range [][]string{f.Params, f.Locals} {
		for _, name := range list {
			_, isArray := d.arrays[name]
			o.require(api.ErrDuplicate, !d.variables[name] && !isArray)
			d.variables[name] = true
		}
	}
	levels, all, loopCount := measure(f.Body)
	o.require(api.ErrLimit, len(f.Params) <= 6 && len(f.Locals) <= 8 && levels <= 20 && all <= 200 && loopCount <= 16)
	o.body(f.Body, d)
	o.expr(f.Value, d)
}

func (o oracle) body(body []api.Stmt, d definedNames) {
	for _, s := range body {
		o.require(api.ErrUndefined, s.Kind != api.StmtAssign && s.Kind != api.StmtCall || d.variables[s.Name])
		o.require(api.ErrUndefined, s.Kind != api.StmtStore || d.arrays[s.Name] > 0)
		arity, isFunction := d.functions[s.To]
		o.require(api.ErrUndefined, s.Kind != api.StmtCall || isFunction)
		o.require(api.ErrArity, s.Kind != api.StmtCall || arity == len(s.Args))
		for _, e := range append([]api.Expr{s.At, s.Value}, s.Args...) {
			o.expr(e, d)
		}
		o.body(s.Then, d)
		o.body(s.Else, d)
	}
}

func (o oracle) expr(e api.Expr, d definedNames) {
	o.require(api.ErrLimit, height(e) <= 20)
	o.require(api.ErrUndefined, e.Kind != api.ExprVar || d.variables[e.Name])
	o.require(api.ErrUndefined, e.Kind != api.ExprIndex || d.arrays[e.Name] > 0)
	for _, kid := range e.Kids {
		o.expr(kid, d)
	}
}

// programText writes a program. A program that is the tree of a text is that of the one returned here. For any other, the result is some text, which has another tree or none.
func programText(p api.Program) string {
	var text strings.Builder
	for _, a := range p.Arrays {
		text.WriteString("array " + a.Name + " " + strconv.Itoa(a.Len) + ";")
	}
	for _, f := range p.Funcs {
		text.WriteString("func " + f.Name + "(" + strings.Join(f.Params, ",") + ")")
		if len(f.Locals) > 0 {
			text.WriteString("var " + strings.Join(f.Locals, ","))
		}
		text.WriteString("{" + bodyText(f.Body) + "return " + exprText(f.Value) + ";}")
	}
	return text.String()
}

func bodyText(body []api.Stmt) string {
	var text strings.Builder
	for _, s := range body {
		text.WriteString(stmtText(s))
	}
	return text.String()
}

func stmtText(s api.Stmt) string {
	value := exprText(s.Value)
	switch s.Kind {
	case api.StmtAssign:
		return s.Name + "=" + value + ";"
	case api.StmtStore:
		return s.Name + "[" + exprText(s.At) + "]=" + value + ";"
	case api.StmtIf:
		return "if(" + value + "){" + bodyText(s.Then) + "}else{" + bodyText(s.Else) + "}"
	case api.StmtWhile:
		return "while(" + value + "){" + bodyText(s.Then) + "}"
	case api.StmtOut:
		return "out " + value + ";"
	case api.StmtCall:
		return s.Name + "=" + s.To + "(" + exprsText(s.Args, ",") + ");"
	case api.StmtTrap:
		return "trap " + strconv.Itoa(s.N) + ";"
	}
	return "no statement"
}

// exprText needs no precedences, because it writes parentheses around everything but names.
func exprText(e api.Expr) string {
	symbols := map[int]string{
		api.OpAdd: "+", api.OpSub: "-", api.OpMul: "*", api.OpDiv: "/", api.OpRem: "%", api.OpAnd: "&", api.OpOr: "|", api.OpXor: "^",
		api.OpShl: "<<", api.OpShr: ">>>", api.OpSar: ">>", api.OpEq: "==", api.OpNe: "!=", api.OpLt: "<", api.OpLe: "<=",
	}
	switch {
	case e.Kind == api.ExprNum:
		return "(" + strconv.FormatInt(e.N, 10) + ")"
	case e.Kind == api.ExprVar:
		return e.Name
	case e.Kind == api.ExprIndex:
		return e.Name + "[" + exprsText(e.Kids, ",") + "]"
	case e.Kind == api.ExprOp && e.Op == api.OpNeg:
		return "(-" + exprsText(e.Kids, ",") + ")"
	case e.Kind == api.ExprOp && e.Op == api.OpNot:
		return "(~" + exprsText(e.Kids, ",") + ")"
	case e.Kind == api.ExprOp && symbols[e.Op] != "":
		return "(" + exprsText(e.Kids, symbols[e.Op]) + ")"
	case e.Kind == api.ExprCond && len(e.Kids) == 3:
		return "(" + exprText(e.Kids[0]) + "?" + exprText(e.Kids[1]) + ":" + exprText(e.Kids[2]) + ")"
	}
	return "no expression"
}

func exprsText(list []api.Expr, separator string) string {
	var texts []string
	for _, e := range list {
		texts = append(texts, exprText(e))
	}
	return strings.Join(texts, separator)
}

func TestAgainstOracle(t *testing.T) {
	v, counts := &inventor{testtrees.Inventor{Numbers: 7}}, map[api.Errno]int{}
	for i := range 20000 {
		p := v.Program()
		for range i % 4 {
			v.change(&p)
		}
		if len(programText(p)) > api.MaxText {
			continue
		}
		o, want := oracle{map[api.Errno]bool{}}, api.OK
		o.program(p)
		for _, why := range []api.Errno{api.ErrArity, api.ErrUndefined, api.ErrDuplicate, api.ErrSyntax, api.ErrLimit} {
			if o.found[why] {
				want = why
			}
		}
		if got := checker.Check(p); got != want {
			t.Fatalf("Check(%+v) = %d, want %d", p, got, want)
		}
		counts[want]++
	}
	for _, why := range []api.Errno{api.OK, api.ErrArity, api.ErrUndefined, api.ErrDuplicate, api.ErrSyntax, api.ErrLimit} {
		if counts[why] < 200 {
			t.Errorf("only %d programs have the result %d", counts[why], why)
		}
	}
}
