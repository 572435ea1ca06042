package ir_test

import (
	"fmt"
	"math"
	"slices"
	"testing"

	"fulling/api"
	"fulling/ir"
)

// value, state and loop are the sorts of nodes. A malformed node has none.
const (
	malformed = iota
	value
	state
	loop
)

// extremes are numbers that denote no node of a list, and are no immediate operand of an operation that has none, or has a limited one.
var extremes = []int{-1, math.MinInt, math.MinInt + 1, math.MaxInt, math.MaxInt - 1, -1 << 32, 1 << 32, 1<<32 + 1, 1 << 62}

func node(op int, imm int64, kids ...int) api.Node { return api.Node{Op: op, Imm: imm, Kids: kids} }

// graph builds the nodes of a graph.
type graph struct{ nodes []api.Node }

// add appends a node and returns its index.
func (g *graph) add(op int, imm int64, kids ...int) int {
	g.nodes = append(g.nodes, node(op, imm, kids...))
	return len(g.nodes) - 1
}

// put does the same if there is no identical node. Otherwise it returns the index of that one.
func (g *graph) put(op int, imm int64, kids ...int) int {
	n := node(op, imm, kids...)
	if i := slices.IndexFunc(g.nodes, func(other api.Node) bool { return identical(n, other) }); i >= 0 {
		return i
	}
	return g.add(op, imm, kids...)
}

func identical(a, b api.Node) bool {
	return a.Op == b.Op && a.Imm == b.Imm && slices.Equal(a.Kids, b.Kids)
}

// listOf returns n copies of an element.
func listOf[T any](n int, element T) []T { return slices.Repeat([]T{element}, n) }

func checkSort(t *testing.T, what string, l []api.Node, i, want int) {
	t.Helper()
	if got := ir.Sort(l, i); got != want {
		t.Errorf("%s: Sort = %d, want %d", what, got, want)
	}
}

func checkDependencies(t *testing.T, what string, l []api.Node, i int, want ...int) {
	t.Helper()
	if got := ir.Dependencies(l, i); !slices.Equal(got, want) {
		t.Errorf("%s: Dependencies = %.200v, want %.200v", what, got, want)
	}
}

func checkValid(t *testing.T, what string, u api.Unit, want bool) {
	t.Helper()
	if got := ir.Valid(u); got != want {
		t.Errorf("%s: Valid = %v, want %v", what, got, want)
	}
}

// cloneNodes copies a list with all its operands. Each list in the copy has spare capacity with a mark in it.
func cloneNodes(l []api.Node) []api.Node {
	result := make([]api.Node, 0, len(l)+1)
	for _, n := range l {
		kids := append(make([]int, 0, len(n.Kids)+1), n.Kids...)
		_ = append(kids, spareMark)
		result = append(result, api.Node{Op: n.Op, Imm: n.Imm, Kids: kids})
	}
	_ = append(result, node(spareMark, spareMark))
	return result
}

const spareMark = 424_242

func cloneUnit(u api.Unit) api.Unit {
	result := api.Unit{Arrays: slices.Clone(u.Arrays), Funcs: slices.Clone(u.Funcs)}
	for i := range result.Funcs {
		result.Funcs[i].Nodes = cloneNodes(u.Funcs[i].Nodes)
	}
	return result
}

// checkUnchanged compares a list that cloneNodes has made with what it was made from.
func checkUnchanged(t *testing.T, what string, got, want []api.Node) {
	t.Helper()
	if !slices.EqualFunc(got, want, identical) {
		t.Errorf("%s: the nodes were changed to %.300v from %.300v", what, got, want)
	}
	if got[:len(got)+1][len(got)].Op != spareMark {
		t.Errorf("%s: the spare capacity of the nodes was changed", what)
	}
	for _, n := range got {
		if n.Kids[:len(n.Kids)+1][len(n.Kids)] != spareMark {
			t.Errorf("%s: the spare capacity of the operands of %v was changed", what, n)
		}
	}
}

func nodeText(n api.Node) string { return fmt.Sprintf("%d(%d)%v", n.Op, n.Imm, n.Kids) }
