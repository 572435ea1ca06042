package interp

import "fulling/api"

// executeAll executes a list in order.
func (a activation) executeAll(list []api.Stmt) (goesOn bool) {
	for _, s := range list {
		if !a.execute(s) {
			return false
		}
	}
	return true
}

func (a activation) execute(s api.Stmt) (goesOn bool) {
	switch s.Kind {
	case api.StmtAssign:
		return a.assign(s)
	case api.StmtStore:
		return a.store(s)
	case api.StmtIf:
		return a.branch(s)
	case api.StmtWhile:
		return a.loop(s)
	case api.StmtOut:
		return a.output(s)
	case api.StmtCall:
		return a.callAndAssign(s)
	}
	return a.trap(api.TrapUser + s.N)
}

func (a activation) assign(s api.Stmt) (goesOn bool) {
	value, goesOn := a.evaluate(s.Value)
	if goesOn {
		a.variables[s.Name] = value
	}
	return goesOn
}

// store looks at the bounds last, so that a trap in the value is the one that counts.
func (a activation) store(s api.Stmt) (goesOn bool) {
	operands, goesOn := a.evaluateAll([]api.Expr{s.At, s.Value})
	if !goesOn {
		return false
	}
	index, value := operands[0], operands[1]
	if !a.isInBounds(s.Name, index) {
		return a.trap(api.TrapIndex)
	}
	a.arrays[s.Name][index] = value
	return true
}

func (a activation) branch(s api.Stmt) (goesOn bool) {
	condition, goesOn := a.evaluate(s.Value)
	switch {
	case !goesOn:
		return false
	case condition != 0:
		return a.executeAll(s.Then)
	}
	return a.executeAll(s.Else)
}

func (a activation) loop(s api.Stmt) (goesOn bool) {
	for {
		condition, ok := a.evaluate(s.Value)
		if !ok || condition == 0 {
			return ok
		}
		if !a.tick() || !a.executeAll(s.Then) {
			return false
		}
	}
}

func (a activation) output(s api.Stmt) (goesOn bool) {
	value, goesOn := a.evaluate(s.Value)
	if goesOn {
		a.outcome.Out = append(a.outcome.Out, value)
	}
	return goesOn
}

// callAndAssign ticks after the arguments, so that a trap in one of them counts even if no fuel is left.
func (a activation) callAndAssign(s api.Stmt) (goesOn bool) {
	args, goesOn := a.evaluateAll(s.Args)
	if !goesOn || !a.tick() {
		return false
	}
	value, goesOn := a.call(a.functions[s.To], args)
	if goesOn {
		a.variables[s.Name] = value
	}
	return goesOn
}
