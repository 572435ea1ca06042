package ir_test

import (
	"fmt"
	"slices"
	"testing"

	"fulling/api"
	"fulling/ir"
)

// Promise 7.3.

func TestDependenciesOfSmallGraph(t *testing.T) {
	l := []api.Node{
		node(api.OpEntry, 0),
		node(api.OpConst, 1),
		node(api.OpParam, 0),
		node(api.OpAdd, 0, 2, 1),
		node(api.OpMul, 0, 3, 3),
		node(api.OpGuard, 1, 0, 3),
		node(api.OpLoad, 0, 5, 1),
		node(api.OpSelect, 0, 4, 6, 2),
		node(api.OpNeg, 0, 1),
		node(api.OpStore, 0, 5, 8, 7),
	}
	for i, want := range [][]int{{0}, {1}, {2}, {1, 2, 3}, {1, 2, 3, 4}, {0, 1, 2, 3, 5}, {0, 1, 2, 3, 5, 6}, {0, 1, 2, 3, 4, 5, 6, 7}, {1, 8}, {0, 1, 2, 3, 4, 5, 6, 7, 8, 9}} {
		checkDependencies(t, fmt.Sprint("node ", i), l, i, want...)
	}
}

// TestDependenciesOfEachForm: each operand of each operation is used, by a node that uses the operation, too.
func TestDependenciesOfEachForm(t *testing.T) {
	for _, f := range forms() {
		n := node(f.op, f.low, kids(f.operands)...)
		l := neighbourhood(n)
		var want []int
		for _, kid := range n.Kids {
			want = append(want, ir.Dependencies(l, kid)...)
		}
		want = append(want, here)
		slices.Sort(want)
		want = slices.Compact(want)
		checkDependencies(t, nodeText(n), l, here, want...)

		user := map[int]api.Node{value: node(api.OpNot, 0, here), state: node(api.OpCallResult, 0, here), loop: node(api.OpLoopResult, 0, here)}[f.result(f.low)]
		l = append(l, user)
		checkDependencies(t, "user of "+nodeText(n), l, laterLoop+1, append(want, laterLoop+1)...)
	}
}

// TestEachDependency makes a different node the operand at each place, so that no place can be left out.
func TestEachDependency(t *testing.T) {
	for _, f := range forms() {
		for place := range f.operands {
			var g graph
			values, states := g.add(api.OpConst, 1), g.add(api.OpEntry, 0)
			loops := g.add(api.OpLoop, 0, states, values, states)
			special := map[byte]int{'v': g.add(api.OpConst, 2), 's': g.add(api.OpLoopVar, 0), 'l': g.add(api.OpLoop, 1, states, values, states)}
			var operands []int
			for _, letter := range []byte(f.operands) {
				operands = append(operands, map[byte]int{'v': values, 's': states, 'l': loops}[letter])
			}
			operands[place] = special[f.operands[place]]
			last := g.add(f.op, f.low, operands...)
			want := slices.Concat(operands, []int{last})
			if f.op == api.OpLoopResult {
				want = append(want, values, states)
			}
			slices.Sort(want)
			checkDependencies(t, fmt.Sprintf("place %d of %s", place, nodeText(g.nodes[last])), g.nodes, last, slices.Compact(want)...)
		}
	}
}

// TestDependenciesOfLoops: a loop uses the variables in its condition and in its next values, and so does what uses the loop. Variables do not use their loop.
func TestDependenciesOfLoops(t *testing.T) {
	l := []api.Node{
		node(api.OpEntry, 0),
		node(api.OpConst, 1),
		node(api.OpConst, 2),
		node(api.OpLoopVar, 0),
		node(api.OpLoopVar, 1),
		node(api.OpAdd, 0, 4, 2),
		node(api.OpLt, 0, 5, 1),
		node(api.OpLoop, 0, 0, 1, 6, 3, 5),
		node(api.OpLoopResult, 0, 7),
		node(api.OpLoopResult, 1, 7),
		node(api.OpLoopVar, 2),
	}
	for i, want := range [][]int{{0}, {1}, {2}, {3}, {4}, {2, 4, 5}, {1, 2, 4, 5, 6}, {0, 1, 2, 3, 4, 5, 6, 7}, {0, 1, 2, 3, 4, 5, 6, 7, 8}, {0, 1, 2, 3, 4, 5, 6, 7, 9}, {10}} {
		checkDependencies(t, fmt.Sprint("node ", i), l, i, want...)
	}
}

// TestDependenciesBesideMalformedNodes: only the nodes that are used must be well-formed.
func TestDependenciesBesideMalformedNodes(t *testing.T) {
	l := []api.Node{
		node(0, 0),
		node(api.OpConst, 1),
		node(api.OpNeg, 0, 0),
		node(api.OpNeg, 0, 1),
		node(api.OpAdd, 0, 3, 2),
		node(api.OpNot, 0, 5),
		node(api.OpAdd, 0, 3, 1),
		node(api.OpNot, 0, 8),
		node(api.OpSub, 0, 6, 3),
		node(api.OpSub, 0, 6),
		node(api.OpSub, 1, 6, 3),
		node(api.OpSub, 0, 6, -1),
		node(api.OpLoop, 0, 8, 8, 8),
	}
	for i, want := range [][]int{nil, {1}, nil, {1, 3}, nil, nil, {1, 3, 6}, nil, {1, 3, 6, 8}, nil, nil, nil, nil} {
		checkDependencies(t, fmt.Sprint("node ", i), l, i, want...)
	}
}

// TestDependenciesOfMalformedForms breaks each operand of each form.
func TestDependenciesOfMalformedForms(t *testing.T) {
	for _, f := range forms() {
		for place := range f.operands {
			for _, wrong := range wrongOperands(f.operands[place]) {
				n := node(f.op, f.low, kids(f.operands)...)
				n.Kids[place] = wrong
				l := append(neighbourhood(n), node(api.OpNot, 0, here), node(api.OpCallResult, 0, here), node(api.OpLoopResult, 0, here))
				for _, i := range []int{here, laterLoop + 1, laterLoop + 2, laterLoop + 3} {
					checkDependencies(t, fmt.Sprintf("node %d with malformed %s", i, nodeText(n)), l, i)
				}
				checkDependencies(t, "value beside "+nodeText(n), l, laterValue, laterValue)
				checkDependencies(t, "loop beside "+nodeText(n), l, laterLoop, firstState, firstValue, laterLoop)
			}
		}
		if f.op != api.OpConst {
			checkDependencies(t, "wrong immediate operand", neighbourhood(node(f.op, f.high+1, kids(f.operands)...)), here)
			checkDependencies(t, "wrong immediate operand", neighbourhood(node(f.op, f.low-1, kids(f.operands)...)), here)
		}
	}
}

func TestDependenciesWithoutNode(t *testing.T) {
	for _, l := range [][]api.Node{nil, {}, {node(api.OpConst, 1)}, neighbourhood(node(api.OpConst, 1)), make([]api.Node, 3)} {
		for _, i := range append([]int{len(l), len(l) + 1, -len(l) - 1}, extremes...) {
			if got := ir.Dependencies(l, i); got != nil {
				t.Errorf("index %d of %d nodes: Dependencies = %v, want nil", i, len(l), got)
			}
		}
	}
	if got := ir.Dependencies(make([]api.Node, 1), 0); got != nil {
		t.Errorf("zero node: Dependencies = %v, want nil", got)
	}
}

// TestDependenciesOfLargeLists: the ways to a node may be very long and very many.
func TestDependenciesOfLargeLists(t *testing.T) {
	for _, length := range []int{2, 60, api.MaxNodes, 300_000} {
		all := make([]int, length)
		for i := range all {
			all[i] = i
		}
		for what, op := range map[string]int{"chain": api.OpNeg, "ladder": api.OpSub, "double ladder": api.OpSelect} {
			l := []api.Node{node(api.OpConst, 1)}
			arity, _ := ir.Arity(op)
			for i := 1; i < length; i++ {
				l = append(l, node(op, 0, listOf(arity, i-1)...))
			}
			checkDependencies(t, what, l, length-1, all...)
			checkDependencies(t, what+" in the middle", l, length/2, all[:length/2+1]...)
			l[0].Op = 0
			checkDependencies(t, what+" on a malformed node", l, length-1)
		}
	}
}

// TestDependenciesOfLadderOfLoops has as many ways as possible from each node to the one before it.
func TestDependenciesOfLadderOfLoops(t *testing.T) {
	var g graph
	current, number := g.add(api.OpEntry, 0), g.add(api.OpConst, 1)
	all := []int{current, number}
	for range 700 {
		around := g.add(api.OpLoop, 0, loopKids(api.MaxVars, current, number)...)
		current, number = g.add(api.OpLoopResult, 0, around), g.add(api.OpLoopResult, 15, around)
		all = append(all, around, current, number)
	}
	checkDependencies(t, "last value", g.nodes, number, append(slices.Clone(all[:len(all)-2]), number)...)
	checkDependencies(t, "last state", g.nodes, current, all[:len(all)-1]...)
}

// TestDependenciesAreNew: neither the arguments nor earlier results share memory with a result.
func TestDependenciesAreNew(t *testing.T) {
	original := neighbourhood(node(api.OpAdd, 0, firstValue, variableValue))
	l := cloneNodes(original)
	for i := range l {
		first := ir.Dependencies(l, i)
		want := slices.Clone(first)
		for j := range first {
			first[j] = -1
		}
		for j := range cap(first) - len(first) {
			first[:cap(first)][len(first)+j] = -1
		}
		checkDependencies(t, fmt.Sprintf("node %d again", i), l, i, want...)
		checkUnchanged(t, "Dependencies", l, original)
	}
}
