package interp_test

import (
	"testing"

	"fulling/api"
	"fulling/interp"
	"fulling/printer"
	"fulling/testtrees"
)

// Promises 6.1 to 6.4 for programs that are made up. The oracle translates a program to a list of instructions and executes them with a stack of operands and a stack of frames, without recursion and without names.

// Kinds of instructions. Each takes its operands from the stack and leaves its result there.
const (
	push       = iota // n
	read              // variable n
	write             // variable n
	load              // array n
	store             // array n
	operate1          // operation n
	operate2          // operation n
	jump              // to instruction n
	jumpIfZero        // to instruction n
	spend             // a tick
	output
	enter // function n
	leave
	fail // trap with code n
)

type instruction struct {
	kind int
	n    int64
}

// translator collects the instructions of a program.
type translator struct {
	program api.Program
	code    []instruction
	names   []string // of the variables of the current function
}

func (c *translator) emit(kind int, n int64) int {
	c.code = append(c.code, instruction{kind, n})
	return len(c.code) - 1
}

// land lets a jump end at the next instruction.
func (c *translator) land(at int) { c.code[at].n = int64(len(c.code)) }

func (c *translator) variable(name string) int64 {
	for i, n := range c.names {
		if n == name {
			return int64(i)
		}
	}
	return -1
}

func (c *translator) array(name string) int64 {
	for i, a := range c.program.Arrays {
		if a.Name == name {
			return int64(i)
		}
	}
	return -1
}

func (c *translator) function(name string) int64 {
	for i, f := range c.program.Funcs {
		if f.Name == name {
			return int64(i)
		}
	}
	return -1
}

func (c *translator) expressions(list []api.Expr) {
	for _, e := range list {
		c.expression(e)
	}
}

func (c *translator) expression(e api.Expr) {
	if e.Kind == api.ExprCond {
		c.choose(e.Kids[0], func() { c.expression(e.Kids[1]) }, func() { c.expression(e.Kids[2]) })
		return
	}
	c.expressions(e.Kids)
	switch {
	case e.Kind == api.ExprNum:
		c.emit(push, e.N)
	case e.Kind == api.ExprVar:
		c.emit(read, c.variable(e.Name))
	case e.Kind == api.ExprIndex:
		c.emit(load, c.array(e.Name))
	case len(e.Kids) == 1:
		c.emit(operate1, int64(e.Op))
	default:
		c.emit(operate2, int64(e.Op))
	}
}

func (c *translator) choose(condition api.Expr, then, otherwise func()) {
	c.expression(condition)
	toElse := c.emit(jumpIfZero, 0)
	then()
	toEnd := c.emit(jump, 0)
	c.land(toElse)
	otherwise()
	c.land(toEnd)
}

func (c *translator) statements(list []api.Stmt) {
	for _, s := range list {
		c.statement(s)
	}
}

func (c *translator) statement(s api.Stmt) {
	switch s.Kind {
	case api.StmtAssign:
		c.expression(s.Value)
		c.emit(write, c.variable(s.Name))
	case api.StmtStore:
		c.expression(s.At)
		c.expression(s.Value)
		c.emit(store, c.array(s.Name))
	case api.StmtIf:
		c.choose(s.Value, func() { c.statements(s.Then) }, func() { c.statements(s.Else) })
	case api.StmtWhile:
		start := len(c.code)
		c.choose(s.Value, func() {
			c.emit(spend, 0)
			c.statements(s.Then)
			c.emit(jump, int64(start))
		}, func() {})
	case api.StmtOut:
		c.expression(s.Value)
		c.emit(output, 0)
	case api.StmtCall:
		c.expressions(s.Args)
		c.emit(spend, 0)
		c.emit(enter, c.function(s.To))
		c.emit(write, c.variable(s.Name))
	case api.StmtTrap:
		c.emit(fail, int64(16+s.N))
	}
}

// oracle executes the instructions of a program.
type oracle struct {
	translator
	starts  []int // of the functions
	cells   [][]int64
	operand []int64
	frames  []frame
	at      int
	ticks   int // so far
	fuel    int
	outcome api.Outcome
}

type frame struct {
	variables []int64
	back      int
}

func newOracle(p api.Program) *oracle {
	o := &oracle{translator: translator{program: p}}
	for _, f := range p.Funcs {
		o.names = append(append([]string(nil), f.Params...), f.Locals...)
		o.starts = append(o.starts, len(o.code))
		o.statements(f.Body)
		o.expression(f.Value)
		o.emit(leave, 0)
	}
	return o
}

// run returns the outcome and the number of ticks.
func (o *oracle) run(function int, args []int64, fuel int) (api.Outcome, int) {
	o.cells, o.frames, o.ticks, o.fuel, o.outcome = nil, nil, 0, fuel, api.Outcome{}
	for _, a := range o.program.Arrays {
		o.cells = append(o.cells, make([]int64, a.Len))
	}
	o.operand = append([]int64(nil), args...)
	o.enter(function, -1)
	for o.outcome.Kind == 0 {
		o.step()
	}
	return o.outcome, o.ticks
}

func (o *oracle) pop() int64 {
	last := len(o.operand) - 1
	n := o.operand[last]
	o.operand = o.operand[:last]
	return n
}

func (o *oracle) push(n int64) { o.operand = append(o.operand, n) }

func (o *oracle) enter(function, back int) {
	f := o.program.Funcs[function]
	variables := make([]int64, len(f.Params)+len(f.Locals))
	first := len(o.operand) - len(f.Params)
	copy(variables, o.operand[first:])
	o.operand = o.operand[:first]
	o.frames = append(o.frames, frame{variables, back})
	o.at = o.starts[function]
}

func (o *oracle) leave() {
	last := len(o.frames) - 1
	o.at = o.frames[last].back
	o.frames = o.frames[:last]
	if last == 0 {
		o.outcome.Kind, o.outcome.Value = api.Returned, o.pop()
	}
}

func (o *oracle) trap(code int) {
	o.outcome.Kind, o.outcome.Code = api.Trapped, code
}

func (o *oracle) step() {
	i := o.code[o.at]
	o.at++
	switch i.kind {
	case push:
		o.push(i.n)
	case read:
		o.push(o.frames[len(o.frames)-1].variables[i.n])
	case write:
		o.frames[len(o.frames)-1].variables[i.n] = o.pop()
	case load, store:
		o.access(i)
	case operate1:
		o.push(unary[int(i.n)](o.pop()))
	case operate2:
		o.binary(int(i.n))
	case jump:
		o.at = int(i.n)
	case jumpIfZero:
		if o.pop() == 0 {
			o.at = int(i.n)
		}
	case spend:
		if o.ticks == o.fuel {
			o.outcome.Kind = api.OutOfFuel
			return
		}
		o.ticks++
	case output:
		o.outcome.Out = append(o.outcome.Out, o.pop())
	case enter:
		o.enter(int(i.n), o.at)
	case leave:
		o.leave()
	case fail:
		o.trap(int(i.n))
	}
}

func (o *oracle) access(i instruction) {
	cells := o.cells[i.n]
	var value int64
	if i.kind == store {
		value = o.pop()
	}
	index := o.pop()
	switch {
	case index < 0 || index >= int64(len(cells)):
		o.trap(2)
	case i.kind == store:
		cells[index] = value
	default:
		o.push(cells[index])
	}
}

func (o *oracle) binary(op int) {
	b := o.pop()
	a := o.pop()
	if isDivision(op) && b == 0 {
		o.trap(1)
		return
	}
	o.push(binary[op](a, b))
}

// checkMadeUp runs a function of a program with several amounts of fuel, and returns how a run with all fuel ends.
func checkMadeUp(t *testing.T, p api.Program, function int, args []int64) (want api.Outcome, ticks int) {
	t.Helper()
	o := newOracle(p)
	want, ticks = o.run(function, args, api.MaxFuel)
	for _, fuel := range []int{0, 1, ticks / 2, ticks - 1, ticks, ticks + 1, api.MaxFuel} {
		if fuel < 0 || fuel > api.MaxFuel {
			continue
		}
		expected, _ := o.run(function, args, fuel)
		if got := interp.Run(p, p.Funcs[function].Name, args, fuel); !equal(got, expected) {
			t.Fatalf("%s: Run(%q, %v, %d) = %v, want %v", printer.Print(p), p.Funcs[function].Name, args, fuel, got, expected)
		}
		if fuel < ticks && expected.Kind != api.OutOfFuel {
			t.Fatalf("wrong oracle: %s: %d ticks, but with fuel %d %v", printer.Print(p), ticks, fuel, expected)
		}
	}
	return want, ticks
}

func TestMadeUpPrograms(t *testing.T) {
	v := testtrees.Inventor{Numbers: 6}
	kinds, codes, long, loud := map[int]int{}, map[int]int{}, 0, 0
	for i := range 2400 {
		p := v.TameProgram()
		switch i % 4 {
		case 0:
			p = v.Program()
		case 1:
			p = v.VariedProgram()
		}
		for function, f := range p.Funcs {
			args := make([]int64, len(f.Params))
			for j := range args {
				args[j] = testtrees.OneOf(&v.Numbers, edges...)
			}
			outcome, ticks := checkMadeUp(t, p, function, args)
			kinds[outcome.Kind]++
			codes[outcome.Code]++
			long += min(1, ticks/10)
			loud += min(1, len(outcome.Out)/10)
		}
	}
	for _, kind := range []int{api.Returned, api.Trapped, api.OutOfFuel} {
		if kinds[kind] < 200 {
			t.Errorf("only %d runs with all fuel end with kind %d", kinds[kind], kind)
		}
	}
	for _, code := range []int{api.TrapDiv, api.TrapIndex, api.TrapUser, api.TrapUser + 3, api.TrapUser + 1_000_000} {
		if codes[code] < 100 {
			t.Errorf("only %d runs with all fuel trap with code %d", codes[code], code)
		}
	}
	if long < 100 || loud < 100 {
		t.Errorf("only %d runs tick ten times, and only %d output as many words", long, loud)
	}
}
