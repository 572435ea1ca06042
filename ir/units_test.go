package ir_test

import (
	"fmt"

	"fulling/api"
)

// unit is valid if the graph of its function f is: arrays x and y, the function f of the given graph, a function g of two parameters and a function h without.
func unit(f api.Graph) api.Unit {
	f.Name = "f"
	return api.Unit{
		Arrays: []api.Array{{Name: "x", Len: 2}, {Name: "y", Len: 16}},
		Funcs:  []api.Graph{f, smallest("g", 2), smallest("h", 0)},
	}
}

// smallest returns a graph with as few nodes as possible.
func smallest(name string, params int) api.Graph {
	return api.Graph{Name: name, Params: params, Nodes: []api.Node{node(api.OpEntry, 0), node(api.OpConst, 1)}, Value: 1, State: 0}
}

// changed returns a valid unit with a change.
func changed(change func(u *api.Unit)) api.Unit {
	u := unit(smallest("f", 1))
	change(&u)
	return u
}

// withNodes returns a unit whose function f, of 3 parameters, has OpEntry, OpConst 1 and OpConst 2 as its first nodes, then the given ones.
func withNodes(nodes ...api.Node) api.Unit {
	f := smallest("f", 3)
	f.Nodes = append(append(f.Nodes, node(api.OpConst, 2)), nodes...)
	return unit(f)
}

// withResult returns a unit whose function f has the given nodes, the last of which is a result and has the given sort. In place of a loop, its last state is the result.
func withResult(sort int, nodes ...api.Node) api.Unit {
	g := graph{nodes}
	last := len(nodes) - 1
	switch sort {
	case value:
		return unit(api.Graph{Params: 3, Nodes: g.nodes, Value: last, State: 0})
	case state:
		return unit(api.Graph{Params: 3, Nodes: g.nodes, Value: 1, State: last})
	}
	current := g.put(api.OpLoopResult, 0, last)
	return unit(api.Graph{Params: 3, Nodes: g.nodes, Value: 1, State: current})
}

// manyArrays and manyFunctions return valid declarations, apart from their number.
func manyArrays(n int) []api.Array {
	var result []api.Array
	for i := range n {
		result = append(result, api.Array{Name: fmt.Sprint("cells", i), Len: 1 + i%api.MaxLen})
	}
	return result
}

func manyFunctions(n int) []api.Graph {
	var result []api.Graph
	for i := range n {
		result = append(result, smallest(fmt.Sprint("work", i), i%(api.MaxParams+1)))
	}
	return result
}

// everything returns a valid unit whose first function has nodes of all operations, and loops in a condition, in initial values and in next values.
func everything() api.Unit {
	var g graph
	entry, first, second := g.put(api.OpEntry, 0), g.put(api.OpParam, 0), g.put(api.OpParam, 1)
	number := second
	for op := api.OpAdd; op <= api.OpLtu; op++ {
		number = g.put(op, 0, number, first)
	}
	number = g.put(api.OpNeg, 0, g.put(api.OpNot, 0, number))
	current := g.put(api.OpGuard, api.TrapDiv, entry, number)
	current = g.put(api.OpOutput, 0, current, g.put(api.OpConst, -5))
	current = g.put(api.OpStore, 1, current, first, number)
	current = g.put(api.OpSelect, 0, number, current, entry)
	current = g.put(api.OpCall, 1, current, first, number)
	result := g.put(api.OpCallResult, 0, current)
	number = g.put(api.OpSelect, 0, result, number, g.put(api.OpLoad, 1, current, result))
	// Loop 2 is in the next values of loop 0, and loop 5 behind it, with results of loop 0 as initial values.
	outerState, outer := g.put(api.OpLoopVar, 0), g.put(api.OpLoopVar, 1)
	innerState, inner := g.put(api.OpLoopVar, 32), g.put(api.OpLoopVar, 34)
	sum := g.put(api.OpAdd, 0, inner, outer)
	nested := g.put(api.OpLoop, 2, outerState, outer, number, sum, g.put(api.OpOutput, 0, innerState, sum), inner, sum)
	next := g.put(api.OpLoopResult, 1, nested)
	around := g.put(api.OpLoop, 0, current, number, g.put(api.OpLt, 0, next, outer), g.put(api.OpLoopResult, 0, nested), next)
	current, number = g.put(api.OpLoopResult, 0, around), g.put(api.OpLoopResult, 1, around)
	last := g.put(api.OpLoop, 5, current, g.put(api.OpConst, 0), g.put(api.OpLoopVar, 80))
	current = g.put(api.OpCall, 0, g.put(api.OpLoopResult, 0, last), number, first)
	return unit(api.Graph{Params: 2, Nodes: g.nodes, Value: number, State: current})
}
