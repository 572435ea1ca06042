package ir

import (
	"math"

	"fulling/api"
)

// The sorts of nodes. A malformed node has none.
const (
	malformed = iota
	valueSort
	stateSort
	loopSort
)

// loopStride is how many numbers the immediate operand of OpLoopVar has for the variables of each loop.
const loopStride = 16

// maxTrap is the largest number of a trap statement.
const maxTrap = 1_000_000

// sortsOf returns the sorts of the first len(used) nodes as far as they are used, and 0 for the others. With a node, all that it uses must be used.
func sortsOf(l []api.Node, used []bool) []int {
	sorts := make([]int, len(used))
	for i, isUsed := range used {
		if isUsed {
			sorts[i] = sortBehind(l[:i], sorts[:i], l[i])
		}
	}
	return sorts
}

// sortBehind returns the sort of a node that follows the given nodes, which have the given sorts.
func sortBehind(earlier []api.Node, sorts []int, n api.Node) int {
	if !hasOperandCount(n) || !hasImmediate(n) || !hasOperandSorts(sorts, n) {
		return malformed
	}
	if n.Op == api.OpLoopResult && n.Imm >= int64(loopVariables(earlier[n.Kids[0]])) {
		return malformed
	}
	return resultSort(sorts, n)
}

func hasOperandCount(n api.Node) bool {
	switch n.Op {
	case api.OpCall:
		return len(n.Kids) >= 1 && len(n.Kids) <= 1+api.MaxParams
	case api.OpLoop:
		return len(n.Kids)%2 == 1 && loopVariables(n) >= 1 && loopVariables(n) <= api.MaxVars
	}
	arity, known := Arity(n.Op)
	return known && len(n.Kids) == arity
}

// loopVariables returns the number of variables of an OpLoop node.
func loopVariables(loop api.Node) int { return len(loop.Kids) / 2 }

func hasImmediate(n api.Node) bool {
	low, high := immediateRange(n.Op)
	return n.Imm >= low && n.Imm <= high
}

// immediateRange returns the smallest and the largest immediate operand of an operation. For OpLoopResult, the loop restricts it further.
func immediateRange(op int) (low, high int64) {
	switch op {
	case api.OpConst:
		return math.MinInt64, math.MaxInt64
	case api.OpParam:
		return 0, api.MaxParams - 1
	case api.OpLoopVar:
		return 0, loopStride*api.MaxLoops - 1
	case api.OpLoad, api.OpStore:
		return 0, api.MaxArrays - 1
	case api.OpGuard:
		return 1, api.TrapUser + maxTrap
	case api.OpCall:
		return 0, api.MaxFuncs - 1
	case api.OpLoop:
		return 0, api.MaxLoops - 1
	case api.OpLoopResult:
		return 0, api.MaxVars - 1
	}
	return 0, 0
}

// hasOperandSorts returns whether all operands of a node with the right number of them are earlier nodes of the right sorts.
func hasOperandSorts(sorts []int, n api.Node) bool {
	for _, kid := range n.Kids {
		if kid < 0 || kid >= len(sorts) {
			return false
		}
	}
	for place, kid := range n.Kids {
		if sorts[kid] != operandSort(sorts, n, place) {
			return false
		}
	}
	return true
}

// operandSort returns the sort that the operand at a place must have.
func operandSort(sorts []int, n api.Node, place int) int {
	switch n.Op {
	case api.OpLoad, api.OpCallResult, api.OpGuard, api.OpStore, api.OpOutput, api.OpCall:
		if place == 0 {
			return stateSort
		}
	case api.OpSelect:
		if place > 0 && sorts[n.Kids[1]] == stateSort {
			return stateSort
		}
	case api.OpLoopResult:
		return loopSort
	case api.OpLoop:
		if place == 0 || place == loopVariables(n)+1 {
			return stateSort
		}
	}
	return valueSort
}

// resultSort returns the sort of a well-formed node.
func resultSort(sorts []int, n api.Node) int {
	switch n.Op {
	case api.OpEntry, api.OpGuard, api.OpStore, api.OpOutput, api.OpCall:
		return stateSort
	case api.OpLoopVar:
		return variableSort(n.Imm % loopStride)
	case api.OpLoopResult:
		return variableSort(n.Imm)
	case api.OpSelect:
		return sorts[n.Kids[1]]
	case api.OpLoop:
		return loopSort
	}
	return valueSort
}

// variableSort returns the sort of the loop variable of a number.
func variableSort(number int64) int {
	if number == 0 {
		return stateSort
	}
	return valueSort
}
