package ir

import (
	"cmp"
	"slices"

	"fulling/api"
	"fulling/checker"
)

// Valid reports whether a unit is valid.
func Valid(u api.Unit) bool {
	return hasValidDeclarations(u) && !slices.ContainsFunc(u.Funcs, func(g api.Graph) bool { return !isValidGraph(u, g) })
}

// hasValidDeclarations asks the checker about a program with the same arrays and functions, so that the layers below alone know what a name is. It counts the functions before it makes a program of them.
func hasValidDeclarations(u api.Unit) bool {
	if len(u.Funcs) > api.MaxFuncs {
		return false
	}
	p := api.Program{Arrays: u.Arrays}
	for _, g := range u.Funcs {
		p.Funcs = append(p.Funcs, api.Func{Name: g.Name, Value: api.Expr{Kind: api.ExprNum}})
	}
	return checker.Check(p) == api.OK
}

// isValidGraph counts the nodes and finds them well-formed first. The other conditions rely on it.
func isValidGraph(u api.Unit, g api.Graph) bool {
	if g.Params < 0 || g.Params > api.MaxParams || len(g.Nodes) > api.MaxNodes {
		return false
	}
	sorts := sortsOf(g.Nodes, slices.Repeat([]bool{true}, len(g.Nodes)))
	return !slices.Contains(sorts, malformed) && !repeats(g.Nodes) && hasDefinitions(u, g) && hasMatchingLoops(g.Nodes) && hasResults(g, sorts)
}

// repeats returns whether two of the nodes are identical. In order, these are next to each other.
func repeats(l []api.Node) bool {
	ordered := slices.SortedFunc(slices.Values(l), compare)
	for i := 1; i < len(ordered); i++ {
		if compare(ordered[i-1], ordered[i]) == 0 {
			return true
		}
	}
	return false
}

func compare(a, b api.Node) int {
	return cmp.Or(cmp.Compare(a.Op, b.Op), cmp.Compare(a.Imm, b.Imm), slices.Compare(a.Kids, b.Kids))
}

// hasDefinitions returns whether all parameters, arrays and functions that the nodes of a graph refer to exist.
func hasDefinitions(u api.Unit, g api.Graph) bool {
	return !slices.ContainsFunc(g.Nodes, func(n api.Node) bool { return !hasDefinition(u, g, n) })
}

func hasDefinition(u api.Unit, g api.Graph, n api.Node) bool {
	switch n.Op {
	case api.OpParam:
		return n.Imm < int64(g.Params)
	case api.OpLoad, api.OpStore:
		return n.Imm < int64(len(u.Arrays))
	case api.OpCall:
		return n.Imm < int64(len(u.Funcs)) && len(n.Kids)-1 == u.Funcs[n.Imm].Params
	}
	return true
}

// hasResults returns whether the results of a graph are a value and a state that exist outside of all loops.
func hasResults(g api.Graph, sorts []int) bool {
	if g.Value < 0 || g.Value >= len(sorts) || g.State < 0 || g.State >= len(sorts) {
		return false
	}
	if sorts[g.Value] != valueSort || sorts[g.State] != stateSort {
		return false
	}
	loops := loopsOf(g.Nodes)
	return loops[g.Value] == 0 && loops[g.State] == 0
}
