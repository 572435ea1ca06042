package ir_test

import (
	"fmt"
	"math"
	"slices"
	"strings"
	"testing"

	"fulling/api"
	"fulling/ir"
)

// Promise 7.4: declarations, numbers of nodes and identical nodes.

func TestValidUnits(t *testing.T) {
	checkValid(t, "no declarations", api.Unit{}, true)
	checkValid(t, "empty lists", api.Unit{Arrays: []api.Array{}, Funcs: []api.Graph{}}, true)
	checkValid(t, "one array", api.Unit{Arrays: []api.Array{{Name: "x", Len: 1}}}, true)
	checkValid(t, "one function", api.Unit{Funcs: []api.Graph{smallest("f", 0)}}, true)
	checkValid(t, "three functions", unit(smallest("f", 0)), true)
	checkValid(t, "without change", changed(func(*api.Unit) {}), true)
	checkValid(t, "without nodes added", withNodes(), true)
	checkValid(t, "everything", everything(), true)
	checkValid(t, "zero array", api.Unit{Arrays: make([]api.Array, 1)}, false)
	checkValid(t, "zero function", api.Unit{Funcs: make([]api.Graph, 1)}, false)
	checkValid(t, "function without nodes", unit(api.Graph{Nodes: nil}), false)
	checkValid(t, "value before the state", unit(api.Graph{Nodes: []api.Node{node(api.OpConst, 1), node(api.OpEntry, 0)}, Value: 0, State: 1}), true)
	checkValid(t, "lowered sum", unit(api.Graph{Params: 1, Nodes: []api.Node{node(api.OpEntry, 0), node(api.OpParam, 0), node(api.OpConst, 0), node(api.OpAdd, 0, 1, 2)}, Value: 3, State: 0}), true)
}

// TestEverythingIsUsed checks what other tests rely on: a graph has all operations.
func TestEverythingIsUsed(t *testing.T) {
	for op := api.OpConst; op <= api.OpLoop; op++ {
		if !slices.ContainsFunc(everything().Funcs[0].Nodes, func(n api.Node) bool { return n.Op == op }) {
			t.Errorf("wrong test: operation %d is missing", op)
		}
	}
}

func TestNumbersOfDeclarations(t *testing.T) {
	for n := range 20 {
		checkValid(t, fmt.Sprint(n, " arrays"), api.Unit{Arrays: manyArrays(n)}, n <= api.MaxArrays)
		checkValid(t, fmt.Sprint(n, " arrays and functions"), api.Unit{Arrays: manyArrays(n), Funcs: manyFunctions(2)}, n <= api.MaxArrays)
		checkValid(t, fmt.Sprint(n, " functions"), api.Unit{Funcs: manyFunctions(n)}, n <= api.MaxFuncs)
		checkValid(t, fmt.Sprint(n, " functions and arrays"), api.Unit{Arrays: manyArrays(2), Funcs: manyFunctions(n)}, n <= api.MaxFuncs)
	}
	checkValid(t, "very many arrays", api.Unit{Arrays: make([]api.Array, 1_000_000)}, false)
	checkValid(t, "very many functions", api.Unit{Funcs: make([]api.Graph, 1_000_000)}, false)
}

func TestLengthsOfArrays(t *testing.T) {
	for _, n := range append([]int{0, 1, 2, 3, 8, 15, 16, 17, 18, 32, 256, 257, 1<<32 + 1, -16}, extremes...) {
		for at := range api.MaxArrays {
			u := api.Unit{Arrays: manyArrays(api.MaxArrays), Funcs: manyFunctions(2)}
			u.Arrays[at].Len = n
			checkValid(t, fmt.Sprintf("array %d of length %d", at, n), u, n >= 1 && n <= api.MaxLen)
		}
	}
}

func TestNames(t *testing.T) {
	for _, name := range []string{"a", "Z", "_", "__", "_1", "x1", "aB_9", "iff", "Func", "array1", "arrays", "_if", "IF", "abcdefghijklmnop", "ABCDEFGHIJKLMNO_", "________________", "returned", "traps"} {
		checkName(t, name, true)
	}
	for _, name := range []string{"array", "func", "var", "return", "if", "else", "while", "out", "trap"} {
		checkName(t, name, false)
	}
	for _, name := range []string{
		"", " ", "1", "0", "1a", "-", "-a", "a-b", "a b", "a.b", "a,b", "a;", "a[0]", "a#", "#a", "#", "a#b", "a/b", "a'", "ab\x00", "\x00", "ä", "aä", "\xff", "é", "名", "a\u00a0", "a 1; array b",
		" a", "a ", "\ta", "a\t", "\na", "a\n", "\ra", "a\r", " a ", "a#\n", "#\na", "abcdefghijklmnopq", "abcdefghijklmnop ", " abcdefghijklmno", strings.Repeat("a", api.MaxText), strings.Repeat("a", 1_000_000), strings.Repeat(" ", api.MaxText) + "a",
	} {
		checkName(t, name, false)
	}
}

// checkName gives the name to each array and to each function.
func checkName(t *testing.T, name string, want bool) {
	t.Helper()
	for at := range 3 {
		u := api.Unit{Arrays: manyArrays(3), Funcs: manyFunctions(3)}
		u.Arrays[at].Name = name
		checkValid(t, fmt.Sprintf("array %d of name %.40q", at, name), u, want)
		u = api.Unit{Arrays: manyArrays(3), Funcs: manyFunctions(3)}
		u.Funcs[at].Name = name
		checkValid(t, fmt.Sprintf("function %d of name %.40q", at, name), u, want)
	}
}

func TestEqualNames(t *testing.T) {
	for i := range api.MaxFuncs {
		for j := range api.MaxFuncs {
			u := api.Unit{Arrays: manyArrays(api.MaxArrays), Funcs: manyFunctions(api.MaxFuncs)}
			u.Funcs[i].Name = u.Funcs[j].Name
			checkValid(t, fmt.Sprintf("function %d named as function %d", i, j), u, i == j)
			if j >= api.MaxArrays {
				continue
			}
			u = api.Unit{Arrays: manyArrays(api.MaxArrays), Funcs: manyFunctions(api.MaxFuncs)}
			u.Funcs[i].Name = u.Arrays[j].Name
			checkValid(t, fmt.Sprintf("function %d named as array %d", i, j), u, true)
			if i >= api.MaxArrays {
				continue
			}
			u.Arrays[i].Name = u.Arrays[j].Name
			checkValid(t, fmt.Sprintf("array %d named as array %d", i, j), u, i == j)
		}
	}
	u := api.Unit{Arrays: manyArrays(2), Funcs: manyFunctions(2)}
	u.Arrays[0].Name, u.Arrays[1].Name, u.Funcs[0].Name, u.Funcs[1].Name = "a", "A", "A", "a"
	checkValid(t, "names that differ in case", u, true)
}

func TestNumbersOfParameters(t *testing.T) {
	for _, n := range append([]int{0, 1, 2, 3, 4, 5, 6, 7, 8, 256, 1<<32 + 2, -2, -6}, extremes...) {
		for at := range 3 {
			u := unit(smallest("f", 1))
			u.Funcs[at].Params = n
			checkValid(t, fmt.Sprintf("function %d of %d parameters", at, n), u, n >= 0 && n <= api.MaxParams)
		}
	}
}

// longGraph returns a valid graph of n nodes, apart from their number.
func longGraph(n int) api.Graph {
	f := smallest("f", 0)
	for len(f.Nodes) < n {
		f.Nodes = append(f.Nodes, node(api.OpMul, 0, len(f.Nodes)-1, len(f.Nodes)-1))
	}
	f.Value = n - 1
	return f
}

func TestNumbersOfNodes(t *testing.T) {
	for _, n := range []int{2, 3, api.MaxNodes - 1, api.MaxNodes, api.MaxNodes + 1, api.MaxNodes + 2, 1_000_000} {
		for at := range 3 {
			u := unit(smallest("f", 1))
			f := longGraph(n)
			f.Name = u.Funcs[at].Name
			u.Funcs[at] = f
			checkValid(t, fmt.Sprintf("function %d of %d nodes", at, n), u, n <= api.MaxNodes)
			u.Funcs[at].Value = 1
			checkValid(t, fmt.Sprintf("function %d of %d nodes that are not used", at, n), u, n <= api.MaxNodes)
		}
	}
	u := api.Unit{Arrays: manyArrays(api.MaxArrays), Funcs: manyFunctions(api.MaxFuncs)}
	for i := range u.Funcs {
		u.Funcs[i].Nodes, u.Funcs[i].Value = longGraph(api.MaxNodes).Nodes, api.MaxNodes-1
	}
	checkValid(t, "as many nodes as possible", u, true)
}

// TestGraphsOfLargeNodes has as many operands as possible.
func TestGraphsOfLargeNodes(t *testing.T) {
	var g graph
	current, number := g.add(api.OpEntry, 0), g.add(api.OpConst, 1)
	for i := range api.MaxLoops {
		around := g.add(api.OpLoop, int64(i), loopKids(api.MaxVars, current, number)...)
		current, number = g.add(api.OpLoopResult, 0, around), g.add(api.OpLoopResult, 15, around)
	}
	for len(g.nodes) < api.MaxNodes {
		current = g.add(api.OpCall, 1, current, number, number)
	}
	f := api.Graph{Nodes: g.nodes, Value: number, State: current}
	checkValid(t, "calls behind loops", unit(f), true)
	f.Nodes[api.MaxNodes-1] = f.Nodes[api.MaxNodes-2]
	checkValid(t, "calls behind loops, the last twice", unit(f), false)
}

// TestMalformedNodes adds malformed nodes that nothing uses.
func TestMalformedNodes(t *testing.T) {
	checkValid(t, "well-formed node", withNodes(node(api.OpAdd, 0, 1, 2)), true)
	for _, broken := range []api.Node{
		node(0, 0), node(-1, 0), node(api.OpLoop+1, 0), node(math.MaxInt, 0), node(api.OpAdd, 0, 1), node(api.OpAdd, 0, 1, 1, 1), node(api.OpAdd, 0, 1, 0), node(api.OpAdd, 0, 1, 3), node(api.OpAdd, 0, 4, 1), node(api.OpAdd, 0, 1, -1), node(api.OpAdd, 0, 1, math.MaxInt), node(api.OpAdd, 0, 1, math.MinInt), node(api.OpAdd, 1, 1, 2),
		node(api.OpParam, -1), node(api.OpParam, 6), node(api.OpLoopVar, 256), node(api.OpEntry, 1), node(api.OpConst, 3, 1), node(api.OpGuard, 0, 0, 1), node(api.OpLoad, -1, 0, 1), node(api.OpStore, 4, 0, 1, 1), node(api.OpCall, -1, 0), node(api.OpCall, 8, 0), node(api.OpCall, 1, 1, 1, 1), node(api.OpCall, 1),
		node(api.OpSelect, 0, 1, 1, 0), node(api.OpLoop, 16, 0, 1, 0), node(api.OpLoop, -1, 0, 1, 0), node(api.OpLoop, 0, 0, 1), node(api.OpLoop, 0), node(api.OpLoopResult, 0, 1), node(api.OpCallResult, 0, 1),
	} {
		checkValid(t, "malformed "+nodeText(broken), withNodes(broken), false)
		checkValid(t, "malformed and then "+nodeText(broken), withNodes(broken, node(api.OpAdd, 0, 1, 2)), false)
		u := unit(smallest("f", 1))
		u.Funcs[2].Nodes = append(u.Funcs[2].Nodes, node(api.OpConst, 2), broken)
		checkValid(t, "malformed in the last function "+nodeText(broken), u, false)
		u = unit(smallest("f", 1))
		u.Funcs[0].Nodes = append([]api.Node{broken}, node(api.OpEntry, 0), node(api.OpConst, 1))
		u.Funcs[0].Value, u.Funcs[0].State = 2, 1
		checkValid(t, "malformed at first "+nodeText(broken), u, false)
	}
	checkValid(t, "result of a missing variable", withNodes(node(api.OpLoop, 0, 0, 1, 0), node(api.OpLoopResult, 0, 3)), true)
	checkValid(t, "result of a missing variable", withNodes(node(api.OpLoop, 0, 0, 1, 0), node(api.OpLoopResult, 1, 3)), false)
}

// TestIdenticalNodes repeats each node of a graph, next to it and at the end.
func TestIdenticalNodes(t *testing.T) {
	original := everything()
	length := len(original.Funcs[0].Nodes)
	for i := range length {
		u := cloneUnit(original)
		u.Funcs[0].Nodes = append(u.Funcs[0].Nodes, u.Funcs[0].Nodes[i])
		checkValid(t, "again: "+nodeText(u.Funcs[0].Nodes[i]), u, false)
	}
	checkValid(t, "first nodes", withNodes(node(api.OpEntry, 0)), false)
	checkValid(t, "neighbours", withNodes(node(api.OpConst, 2)), false)
	checkValid(t, "no lists of operands", withNodes(api.Node{Op: api.OpConst, Imm: 3}, api.Node{Op: api.OpConst, Imm: 3, Kids: []int{}}), false)
	checkValid(t, "functions with identical nodes", unit(smallest("f", 2)), true)
	last := unit(smallest("f", 2))
	last.Funcs[2].Nodes = append(last.Funcs[2].Nodes, node(api.OpConst, 1))
	checkValid(t, "in the last function", last, false)
}

// TestSimilarNodes has nodes that differ in one respect alone.
func TestSimilarNodes(t *testing.T) {
	// Node 3 is a second state, node 4 a third one.
	states := []api.Node{node(api.OpOutput, 0, 0, 1), node(api.OpOutput, 0, 0, 2)}
	for _, pair := range [][2]api.Node{
		{node(api.OpAdd, 0, 1, 2), node(api.OpSub, 0, 1, 2)}, {node(api.OpNeg, 0, 1), node(api.OpNot, 0, 1)}, {node(api.OpParam, 0), node(api.OpLoopVar, 0)}, {node(api.OpConst, 0), node(api.OpParam, 0)}, {node(api.OpLoad, 0, 0, 1), node(api.OpOutput, 0, 4, 1)}, {node(api.OpGuard, 1, 0, 1), node(api.OpLoad, 1, 0, 1)},
		{node(api.OpConst, 4), node(api.OpConst, 5)}, {node(api.OpConst, 4), node(api.OpConst, 1<<32+4)}, {node(api.OpConst, math.MinInt64), node(api.OpConst, math.MaxInt64)}, {node(api.OpConst, 4), node(api.OpConst, -4)}, {node(api.OpParam, 0), node(api.OpParam, 1)}, {node(api.OpLoopVar, 0), node(api.OpLoopVar, 16)}, {node(api.OpGuard, 1, 0, 1), node(api.OpGuard, 2, 0, 1)}, {node(api.OpLoad, 0, 0, 1), node(api.OpLoad, 1, 0, 1)}, {node(api.OpStore, 0, 0, 1, 1), node(api.OpStore, 1, 0, 1, 1)}, {node(api.OpCall, 0, 0, 1, 1, 1), node(api.OpCall, 0, 0, 1, 1, 2)},
		{node(api.OpAdd, 0, 1, 2), node(api.OpAdd, 0, 2, 1)}, {node(api.OpAdd, 0, 1, 1), node(api.OpAdd, 0, 1, 2)}, {node(api.OpAdd, 0, 1, 1), node(api.OpAdd, 0, 2, 1)}, {node(api.OpAdd, 0, 1, 1), node(api.OpAdd, 0, 2, 2)}, {node(api.OpNeg, 0, 1), node(api.OpNeg, 0, 2)},
		{node(api.OpSelect, 0, 1, 1, 1), node(api.OpSelect, 0, 2, 1, 1)}, {node(api.OpSelect, 0, 1, 1, 1), node(api.OpSelect, 0, 1, 2, 1)}, {node(api.OpSelect, 0, 1, 1, 1), node(api.OpSelect, 0, 1, 1, 2)}, {node(api.OpSelect, 0, 1, 1, 1), node(api.OpSelect, 0, 1, 3, 3)},
		{node(api.OpStore, 0, 0, 1, 1), node(api.OpStore, 0, 3, 1, 1)}, {node(api.OpStore, 0, 0, 1, 1), node(api.OpStore, 0, 0, 2, 1)}, {node(api.OpStore, 0, 0, 1, 1), node(api.OpStore, 0, 0, 1, 2)}, {node(api.OpCallResult, 0, 0), node(api.OpCallResult, 0, 3)},
		{node(api.OpCall, 0, 0, 1, 1, 1), node(api.OpCall, 0, 3, 1, 1, 1)}, {node(api.OpCall, 0, 0, 1, 1, 1), node(api.OpCall, 0, 0, 2, 1, 1)}, {node(api.OpCall, 1, 0, 1, 1), node(api.OpCall, 1, 0, 1, 2)}, {node(api.OpLoop, 0, 0, 1, 0), node(api.OpLoop, 1, 0, 1, 0)},
	} {
		what := nodeText(pair[0]) + " and " + nodeText(pair[1])
		checkValid(t, what, withNodes(append(slices.Clone(states), pair[0], pair[1])...), true)
		checkValid(t, what+" exchanged", withNodes(append(slices.Clone(states), pair[1], pair[0])...), true)
		checkValid(t, what+" and again", withNodes(append(slices.Clone(states), pair[0], pair[1], pair[0])...), false)
		checkValid(t, what+" twice", withNodes(append(slices.Clone(states), pair[0], pair[1], pair[1])...), false)
	}
}

func TestValidChangesNothing(t *testing.T) {
	for at := range 3 {
		original := everything()
		u := cloneUnit(original)
		if at > 0 {
			u.Funcs[at].State = 1
		}
		if first, second := ir.Valid(u), ir.Valid(u); first != (at == 0) || second != first {
			t.Errorf("Valid = %v, then %v", first, second)
		}
		for i, f := range u.Funcs {
			checkUnchanged(t, "Valid", f.Nodes, original.Funcs[i].Nodes)
			if f.Name != original.Funcs[i].Name || f.Params != original.Funcs[i].Params || f.Value != original.Funcs[i].Value {
				t.Errorf("function %d was changed", i)
			}
		}
		if !slices.Equal(u.Arrays, original.Arrays) || len(u.Funcs) != 3 {
			t.Errorf("the unit was changed")
		}
	}
}
