package ir

import "fulling/api"

// loopSet is a set of loops. Bit n is set if it contains loop n.
type loopSet uint64

// hasMatchingLoops returns whether no two loops have the same number, and whether no variable is behind the last one of its loop. A variable of a loop that does not exist is not restricted.
func hasMatchingLoops(l []api.Node) bool {
	var variables [api.MaxLoops]int // 0 for a loop that does not exist
	for _, n := range l {
		if n.Op != api.OpLoop {
			continue
		}
		if variables[n.Imm] != 0 {
			return false
		}
		variables[n.Imm] = loopVariables(n)
	}
	for _, n := range l {
		if n.Op != api.OpLoopVar {
			continue
		}
		if count := variables[n.Imm/loopStride]; count != 0 && n.Imm%loopStride >= int64(count) {
			return false
		}
	}
	return true
}

// loopsOf returns the loops that each of the nodes depends on, all of which must be well-formed.
func loopsOf(l []api.Node) []loopSet {
	loops := make([]loopSet, len(l))
	for i, n := range l {
		loops[i] = loopsBehind(loops, n)
	}
	return loops
}

// loopsBehind returns the loops that a node depends on, given those of its operands.
func loopsBehind(loops []loopSet, n api.Node) loopSet {
	switch n.Op {
	case api.OpLoopVar:
		return 1 << (n.Imm / loopStride)
	case api.OpLoop:
		initial := loopVariables(n)
		return union(loops, n.Kids[:initial]) | union(loops, n.Kids[initial:])&^(1<<n.Imm)
	}
	return union(loops, n.Kids)
}

func union(loops []loopSet, operands []int) loopSet {
	var result loopSet
	for _, i := range operands {
		result |= loops[i]
	}
	return result
}
