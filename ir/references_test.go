package ir_test

import (
	"fmt"
	"math"
	"slices"
	"testing"

	"fulling/api"
)

// Promise 7.4: what nodes refer to, loops, and the results.

func TestParameters(t *testing.T) {
	for params := range api.MaxParams + 1 {
		for imm := range int64(api.MaxParams) {
			f := smallest("f", params)
			f.Nodes = append(f.Nodes, node(api.OpParam, imm))
			checkValid(t, fmt.Sprintf("unused parameter %d of %d", imm, params), unit(f), imm < int64(params))
			f.Value = 2
			checkValid(t, fmt.Sprintf("parameter %d of %d", imm, params), unit(f), imm < int64(params))
		}
	}
	// The parameters of other functions do not count.
	u := unit(smallest("f", 0))
	u.Funcs[2].Nodes = append(u.Funcs[2].Nodes, node(api.OpParam, 1))
	checkValid(t, "parameter of another function", u, false)
	u.Funcs[2].Params = 2
	checkValid(t, "second parameter of the last function", u, true)
}

func TestArraysOfNodes(t *testing.T) {
	for arrays := range api.MaxArrays + 1 {
		for imm := range int64(api.MaxArrays) {
			for _, n := range []api.Node{node(api.OpLoad, imm, 0, 1), node(api.OpStore, imm, 0, 1, 1)} {
				u := withNodes(n)
				u.Arrays = manyArrays(arrays)
				checkValid(t, fmt.Sprintf("%s with %d arrays", nodeText(n), arrays), u, imm < int64(arrays))
				u.Funcs[0], u.Funcs[2] = u.Funcs[2], u.Funcs[0]
				checkValid(t, fmt.Sprintf("%s in the last function with %d arrays", nodeText(n), arrays), u, imm < int64(arrays))
			}
		}
	}
}

func TestCalledFunctions(t *testing.T) {
	for functions := 1; functions <= api.MaxFuncs; functions++ {
		for imm := range int64(api.MaxFuncs) {
			u := api.Unit{Funcs: manyFunctions(functions)}
			for i := range u.Funcs {
				u.Funcs[i].Params = 0
			}
			last := &u.Funcs[functions-1]
			last.Nodes = append(last.Nodes, node(api.OpCall, imm, 0))
			checkValid(t, fmt.Sprintf("call of function %d of %d", imm, functions), u, imm < int64(functions))
			last.State = 2
			checkValid(t, fmt.Sprintf("call of function %d of %d as state", imm, functions), u, imm < int64(functions))
		}
	}
}

// TestNumbersOfCalledArguments calls functions before and behind the calling one, and the calling one itself.
func TestNumbersOfCalledArguments(t *testing.T) {
	for callee := range int64(3) {
		for params := range api.MaxParams + 1 {
			for arguments := range api.MaxParams + 1 {
				u := unit(smallest("f", 1))
				u.Funcs[callee].Params = params
				u.Funcs[1].Nodes = append(u.Funcs[1].Nodes, node(api.OpCall, callee, append([]int{0}, listOf(arguments, 1)...)...))
				checkValid(t, fmt.Sprintf("call of function %d of %d parameters with %d", callee, params, arguments), u, params == arguments)
			}
		}
	}
}

// TestNumbersOfLoops: each pair of loops of a graph has different numbers.
func TestNumbersOfLoops(t *testing.T) {
	for first := range int64(api.MaxLoops) {
		for second := range int64(api.MaxLoops) {
			checkValid(t, fmt.Sprintf("loops %d and %d", first, second), withNodes(node(api.OpLoop, first, 0, 1, 0), node(api.OpLoop, second, 0, 2, 0)), first != second)
			checkValid(t, fmt.Sprintf("loops %d and %d of different lengths", first, second), withNodes(node(api.OpLoop, first, 0, 1, 0), node(api.OpLoop, second, 0, 2, 2, 0, 2)), first != second)
		}
	}
	var all []api.Node
	for imm := range int64(api.MaxLoops) {
		all = append(all, node(api.OpLoop, imm, 0, 1, 0))
	}
	checkValid(t, "all loops", withNodes(all...), true)
	checkValid(t, "all loops and one", withNodes(append(all, node(api.OpLoop, 7, 0, 2, 0))...), false)
	u := withNodes(node(api.OpLoop, 3, 0, 1, 0))
	u.Funcs[1].Nodes = append(u.Funcs[1].Nodes, node(api.OpLoop, 3, 0, 1, 0))
	checkValid(t, "the same number in another function", u, true)
}

// TestVariablesOfLoops has variables before and behind their loop, of loops with each number of variables, which nothing uses.
func TestVariablesOfLoops(t *testing.T) {
	for number := range int64(api.MaxLoops) {
		for variables := 1; variables <= api.MaxVars; variables++ {
			around := node(api.OpLoop, number, loopKids(variables, 0, 1)...)
			for variable := range int64(16) {
				own, want := node(api.OpLoopVar, 16*number+variable), variable < int64(variables)
				what := fmt.Sprintf("variable %d of loop %d with %d variables", variable, number, variables)
				checkValid(t, what, withNodes(own, around), want)
				checkValid(t, what+" behind it", withNodes(around, own), want)
			}
		}
	}
}

func TestVariablesOfOtherLoops(t *testing.T) {
	for imm := range int64(256) {
		checkValid(t, fmt.Sprintf("variable %d without loops", imm), withNodes(node(api.OpLoopVar, imm)), true)
		checkValid(t, fmt.Sprintf("variable %d with loop 5", imm), withNodes(node(api.OpLoop, 5, 0, 1, 1, 0, 1), node(api.OpLoopVar, imm)), imm < 80 || imm == 80 || imm == 81 || imm >= 96)
	}
	u := withNodes(node(api.OpLoopVar, 2))
	u.Funcs[1].Nodes = append(u.Funcs[1].Nodes, node(api.OpLoop, 0, 0, 1, 0))
	checkValid(t, "variable of a loop of another function", u, true)
	// Each loop restricts its own variables only.
	short, long := node(api.OpLoop, 3, 0, 1, 0), node(api.OpLoop, 4, 0, 1, 1, 1, 0, 1, 1)
	checkValid(t, "last variables of two loops", withNodes(node(api.OpLoopVar, 48), node(api.OpLoopVar, 66), short, long), true)
	checkValid(t, "behind the short one", withNodes(node(api.OpLoopVar, 49), node(api.OpLoopVar, 66), short, long), false)
	checkValid(t, "behind the long one", withNodes(node(api.OpLoopVar, 48), node(api.OpLoopVar, 67), short, long), false)
}

// TestResultsWithoutNode: Value and State must be nodes.
func TestResultsWithoutNode(t *testing.T) {
	for _, i := range append([]int{2, 3, 1 << 32, 1<<32 + 1, api.MaxNodes}, extremes...) {
		for at := range 3 {
			checkValid(t, fmt.Sprintf("Value %d of function %d", i, at), changed(func(u *api.Unit) { u.Funcs[at].Value = i }), false)
			checkValid(t, fmt.Sprintf("State %d of function %d", i, at), changed(func(u *api.Unit) { u.Funcs[at].State = i }), false)
		}
	}
	for i := range 3 {
		checkValid(t, "no nodes", unit(api.Graph{Value: i - 1, State: i - 1}), false)
	}
}

// TestSortsOfResults takes each node of a graph outside of its loops as Value and as State.
func TestSortsOfResults(t *testing.T) {
	nodes := []api.Node{node(api.OpEntry, 0), node(api.OpConst, 1), node(api.OpConst, 2), node(api.OpAdd, 0, 1, 2), node(api.OpGuard, 1, 0, 1), node(api.OpLoop, 0, 0, 1, 1, 0, 2), node(api.OpLoopResult, 0, 5), node(api.OpLoopResult, 1, 5), node(api.OpSelect, 0, 1, 4, 6), node(api.OpSelect, 0, 1, 3, 7), node(api.OpParam, 0), node(api.OpCallResult, 0, 8), node(api.OpCall, 0, 8, 11), node(api.OpLoad, 1, 12, 7), node(api.OpOutput, 0, 12, 13), node(api.OpStore, 1, 14, 13, 9)}
	values, states := []int{1, 2, 3, 7, 9, 10, 11, 13}, []int{0, 4, 6, 8, 12, 14, 15}
	for valueNode := range nodes {
		for stateNode := range nodes {
			want := slices.Contains(values, valueNode) && slices.Contains(states, stateNode)
			u := unit(api.Graph{Params: 1, Nodes: nodes, Value: valueNode, State: stateNode})
			checkValid(t, fmt.Sprintf("Value %d and State %d", valueNode, stateNode), u, want)
		}
	}
}

// TestResultsInLoops: a variable is no result, whether its loop exists or not.
func TestResultsInLoops(t *testing.T) {
	for number := range int64(api.MaxLoops) {
		for variable := range int64(16) {
			own := node(api.OpLoopVar, 16*number+variable)
			for what, more := range map[string][]api.Node{
				"alone":                {},
				"in its loop":          {node(api.OpLoop, number, loopKids(16, 0, 1)...)},
				"beside another loop":  {node(api.OpLoop, (number+1)%16, loopKids(16, 0, 1)...)},
				"before its last loop": {node(api.OpLoop, (number+1)%16, 0, 1, 0), node(api.OpLoop, number, loopKids(16, 0, 1)...)},
			} {
				nodes := append([]api.Node{node(api.OpEntry, 0), node(api.OpConst, 1), own}, more...)
				u := unit(api.Graph{Nodes: nodes, Value: 1, State: 0})
				checkValid(t, fmt.Sprintf("variable %d %s", own.Imm, what), u, true)
				if variable == 0 {
					u.Funcs[0].State = 2
				} else {
					u.Funcs[0].Value = 2
				}
				checkValid(t, fmt.Sprintf("variable %d %s as result", own.Imm, what), u, false)
			}
		}
	}
}

// TestEachOperandInALoop: what uses a node that depends on a loop depends on it, at each place of each form. Only a loop has places at which its own variables do not count.
func TestEachOperandInALoop(t *testing.T) {
	const number = 0
	for _, f := range forms() {
		for place, letter := range []byte(f.operands) {
			var g graph
			states, values, variableState, variableValue := g.add(api.OpEntry, 0), g.add(api.OpConst, 1), g.add(api.OpLoopVar, 16*number), g.add(api.OpLoopVar, 16*number+1)
			outside := map[byte]int{'v': values, 's': states, 'l': g.add(api.OpLoop, 8, states, values, states)}
			inside := map[byte]int{'v': variableValue, 's': variableState, 'l': g.add(api.OpLoop, 9, variableState, values, states)}
			var operands []int
			for _, other := range []byte(f.operands) {
				operands = append(operands, outside[other])
			}
			u := resultOfForm(f, g, operands)
			checkValid(t, fmt.Sprintf("operation %d with operands %v", f.op, operands), u, true)
			operands[place] = inside[letter]
			u = resultOfForm(f, g, operands)
			variables := len(f.operands) / 2
			canEnd := f.op == api.OpLoop && f.low == number && place >= variables && variables > 1
			checkValid(t, fmt.Sprintf("operation %d with operands %v, %d in a loop", f.op, operands, place), u, canEnd)
		}
	}
}

// resultOfForm returns a unit with a node of a form behind the given nodes, and with the node as result. It adapts the numbers of parameters and loops.
func resultOfForm(f form, g graph, operands []int) api.Unit {
	nodes := append(slices.Clone(g.nodes), node(f.op, f.low, operands...))
	if f.op == api.OpLoop && len(operands)/2 == 1 {
		// Variable 1 exists only as long as its loop does not.
		nodes[len(nodes)-1].Imm = 1
	}
	u := withResult(f.result(f.low), nodes...)
	if f.op == api.OpCall {
		u.Funcs[0].Params = len(operands) - 1
	}
	return u
}

// TestOwnVariablesOfLoops has the variables of each loop at each place of each loop. Only the initial values count for the loop itself.
func TestOwnVariablesOfLoops(t *testing.T) {
	for number := range int64(api.MaxLoops) {
		for variables := 2; variables <= 4; variables++ {
			for place := range 2*variables + 1 {
				for other := range int64(api.MaxLoops) {
					var g graph
					entry, one := g.add(api.OpEntry, 0), g.add(api.OpConst, 1)
					operands := loopKids(variables, entry, one)
					if operands[place] == entry {
						operands[place] = g.add(api.OpLoopVar, 16*other)
					} else {
						operands[place] = g.add(api.OpLoopVar, 16*other+1)
					}
					around := g.add(api.OpLoop, number, operands...)
					current, last := g.add(api.OpLoopResult, 0, around), g.add(api.OpLoopResult, int64(variables)-1, around)
					want := number == other && place >= variables
					what := fmt.Sprintf("loop %d with operands %v: variable of loop %d at %d", number, operands, other, place)
					checkValid(t, what, unit(api.Graph{Nodes: g.nodes, Value: last, State: current}), want)
					checkValid(t, what+", value", unit(api.Graph{Nodes: g.nodes, Value: last, State: entry}), want)
					checkValid(t, what+", state", unit(api.Graph{Nodes: g.nodes, Value: one, State: current}), want)
					checkValid(t, what+", unused", unit(api.Graph{Nodes: g.nodes, Value: one, State: entry}), true)
				}
			}
		}
	}
}

// TestNestedLoops has one loop inside another. Nodes 2 and 3 are the variables of the outer loop 0, 4 and 5 those of the inner loop 1, and 6 is the sum of the values. Node 7 is the inner loop, 8 and 9 are its results, and 10 is the outer loop, unless the test says otherwise.
func TestNestedLoops(t *testing.T) {
	for what, test := range map[string]struct {
		inner, outer []int
		want         bool
	}{
		"inner in the next values":                            {[]int{2, 3, 5, 4, 6}, []int{0, 1, 9, 8, 9}, true},
		"inner in the initial values":                         {[]int{0, 1, 5, 4, 5}, []int{8, 9, 3, 2, 3}, true},
		"inner in the condition":                              {[]int{0, 3, 6, 4, 6}, []int{0, 1, 9, 2, 3}, true},
		"inner in the next state":                             {[]int{2, 1, 6, 4, 6}, []int{0, 1, 3, 8, 3}, true},
		"inner with initial values that depend on the outer":  {[]int{2, 3, 5, 4, 5}, []int{8, 9, 3, 2, 3}, false},
		"inner with an initial state that depends on it":      {[]int{2, 1, 5, 4, 5}, []int{8, 1, 3, 2, 3}, false},
		"inner with next values that depend on the outer":     {[]int{0, 1, 5, 4, 6}, []int{0, 9, 3, 2, 3}, false},
		"inner with a condition that depends on the outer":    {[]int{0, 1, 3, 4, 5}, []int{8, 1, 3, 2, 3}, false},
		"inner value with its own variables as initial ones":  {[]int{0, 5, 5, 4, 5}, []int{0, 1, 9, 2, 3}, false},
		"inner state with its own variables as initial ones":  {[]int{4, 1, 5, 4, 5}, []int{0, 1, 3, 8, 3}, false},
		"inner variable in the outer loop":                    {[]int{2, 3, 5, 4, 6}, []int{0, 1, 5, 8, 9}, false},
		"inner variable in the next values of the outer loop": {[]int{2, 3, 5, 4, 6}, []int{0, 1, 9, 8, 5}, false},
		"inner variable in the initial values":                {[]int{0, 1, 5, 4, 5}, []int{0, 5, 3, 2, 3}, false},
		"sum of both in the outer loop":                       {[]int{2, 3, 5, 4, 6}, []int{0, 1, 9, 8, 6}, false},
		"outer variable as its initial value":                 {[]int{0, 1, 5, 4, 5}, []int{8, 3, 9, 2, 3}, false},
		"both without variables":                              {[]int{0, 1, 1, 0, 1}, []int{8, 9, 9, 8, 9}, true},
		"inner unused, with initial values of its own":        {[]int{4, 5, 5, 4, 6}, []int{0, 1, 3, 2, 3}, true},
		"inner unused, and used outside its loop":             {[]int{0, 1, 6, 4, 6}, []int{0, 1, 3, 2, 3}, true},
	} {
		nodes := []api.Node{
			node(api.OpEntry, 0), node(api.OpConst, 1), node(api.OpLoopVar, 0), node(api.OpLoopVar, 1), node(api.OpLoopVar, 16), node(api.OpLoopVar, 17), node(api.OpAdd, 0, 3, 5),
			node(api.OpLoop, 1, test.inner...), node(api.OpLoopResult, 0, 7), node(api.OpLoopResult, 1, 7), node(api.OpLoop, 0, test.outer...), node(api.OpLoopResult, 0, 10), node(api.OpLoopResult, 1, 10),
		}
		checkValid(t, what, unit(api.Graph{Nodes: nodes, Value: 12, State: 11}), test.want)
		checkValid(t, what+", unused", unit(api.Graph{Nodes: nodes, Value: 1, State: 0}), true)
		exchanged := slices.Clone(nodes)
		for i, n := range exchanged {
			switch n.Op {
			case api.OpLoopVar:
				exchanged[i].Imm ^= 16 * 15
			case api.OpLoop:
				exchanged[i].Imm ^= 15
			}
		}
		checkValid(t, what+", other numbers", unit(api.Graph{Nodes: exchanged, Value: 12, State: 11}), test.want)
	}
}

// TestDeepNests has all loops inside each other. Each uses the variables of all loops around it, in its initial values, its condition and its next values. Without one of the loops, its variables are left over.
func TestDeepNests(t *testing.T) {
	for missing := range api.MaxLoops + 1 {
		var g graph
		entry, one := g.add(api.OpEntry, 0), g.add(api.OpConst, 1)
		// Loop n starts with the state and the sum at n.
		states, sums := []int{entry}, []int{one}
		for n := range api.MaxLoops {
			states = append(states, g.put(api.OpLoopVar, int64(16*n)))
			sums = append(sums, g.put(api.OpAdd, 0, sums[n], g.put(api.OpLoopVar, int64(16*n+1))))
		}
		current, total := states[api.MaxLoops], sums[api.MaxLoops]
		for n := api.MaxLoops - 1; n >= 0; n-- {
			if n == missing {
				continue
			}
			around := g.put(api.OpLoop, int64(n), states[n], sums[n], sums[n+1], current, total)
			current, total = g.put(api.OpLoopResult, 0, around), g.put(api.OpLoopResult, 1, around)
		}
		checkValid(t, fmt.Sprint("nest without loop ", missing), unit(api.Graph{Nodes: g.nodes, Value: total, State: current}), missing == api.MaxLoops)
		checkValid(t, fmt.Sprint("unused nest without loop ", missing), unit(api.Graph{Nodes: g.nodes, Value: one, State: entry}), true)
	}
}

// TestFarLoops: a result depends on a loop over any distance.
func TestFarLoops(t *testing.T) {
	for _, imm := range []int64{1, 255} {
		nodes := []api.Node{node(api.OpEntry, 0), node(api.OpConst, 1), node(api.OpLoopVar, imm), node(api.OpAdd, 0, 1, 2)}
		for len(nodes) < api.MaxNodes {
			nodes = append(nodes, node(api.OpMul, 0, len(nodes)-1, len(nodes)-1))
		}
		checkValid(t, "value at the end", unit(api.Graph{Nodes: nodes, Value: len(nodes) - 1, State: 0}), false)
		nodes[3] = node(api.OpAdd, 0, 1, 1)
		checkValid(t, "value at the end, without the variable", unit(api.Graph{Nodes: nodes, Value: len(nodes) - 1, State: 0}), true)
	}
}

// TestEachFunction breaks each function of a unit in turn.
func TestEachFunction(t *testing.T) {
	for at := range api.MaxFuncs {
		for what, breakFunction := range map[string]func(f *api.Graph){
			"nothing":         func(*api.Graph) {},
			"Params":          func(f *api.Graph) { f.Params = -1 },
			"too many Params": func(f *api.Graph) { f.Params = api.MaxParams + 1 },
			"nodes":           func(f *api.Graph) { f.Nodes = nil },
			"too many nodes":  func(f *api.Graph) { f.Nodes = longGraph(api.MaxNodes + 1).Nodes },
			"malformed":       func(f *api.Graph) { f.Nodes = append(f.Nodes, api.Node{}) },
			"identical":       func(f *api.Graph) { f.Nodes = append(f.Nodes, f.Nodes[1]) },
			"parameter":       func(f *api.Graph) { f.Params = 0; f.Nodes = append(f.Nodes, node(api.OpParam, 0)) },
			"array":           func(f *api.Graph) { f.Nodes = append(f.Nodes, node(api.OpLoad, 2, 0, 1)) },
			"callee":          func(f *api.Graph) { f.Nodes = append(f.Nodes, node(api.OpCall, 1, 0, 1, 1)) },
			"loops": func(f *api.Graph) {
				f.Nodes = append(f.Nodes, node(api.OpLoop, 0, 0, 1, 0), node(api.OpLoop, 0, 2, 1, 0))
			},
			"loop variable":     func(f *api.Graph) { f.Nodes = append(f.Nodes, node(api.OpLoop, 0, 0, 1, 0), node(api.OpLoopVar, 1)) },
			"value":             func(f *api.Graph) { f.Value = 0 },
			"state":             func(f *api.Graph) { f.State = 1 },
			"smallest value":    func(f *api.Graph) { f.Value = math.MinInt },
			"largest state":     func(f *api.Graph) { f.State = math.MaxInt },
			"dependent value":   func(f *api.Graph) { f.Nodes = append(f.Nodes, node(api.OpLoopVar, 1)); f.Value = 2 },
			"dependent state":   func(f *api.Graph) { f.Nodes = append(f.Nodes, node(api.OpLoopVar, 16)); f.State = 2 },
			"empty name":        func(f *api.Graph) { f.Name = "" },
			"name with a space": func(f *api.Graph) { f.Name += " " },
		} {
			u := api.Unit{Arrays: manyArrays(2), Funcs: manyFunctions(api.MaxFuncs)}
			breakFunction(&u.Funcs[at])
			checkValid(t, fmt.Sprintf("function %d: %s", at, what), u, what == "nothing")
		}
	}
}
