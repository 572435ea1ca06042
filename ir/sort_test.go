package ir_test

import (
	"fmt"
	"math"
	"slices"
	"testing"

	"fulling/api"
	"fulling/ir"
)

// Promise 7.2.

// checkHere checks the sort of a node between others.
func checkHere(t *testing.T, what string, n api.Node, want int) {
	t.Helper()
	checkSort(t, what+" "+nodeText(n), neighbourhood(n), here, want)
}

// TestNeighbourhood checks what the other tests rely on.
func TestNeighbourhood(t *testing.T) {
	l := neighbourhood(node(api.OpConst, 0))
	for i, want := range []int{state, value, value, state, state, value, loop, malformed, malformed, malformed, value, value, state, loop} {
		checkSort(t, fmt.Sprint("node ", i), l, i, want)
	}
}

func TestEachForm(t *testing.T) {
	for _, f := range forms() {
		for _, imm := range []int64{f.low, f.high, f.low + (f.high-f.low)/2} {
			checkHere(t, "well-formed", node(f.op, imm, kids(f.operands)...), f.result(imm))
		}
	}
}

func TestSortOfDocumentedGraph(t *testing.T) {
	checkSort(t, "example", []api.Node{node(api.OpEntry, 0), node(api.OpConst, 0), node(api.OpGuard, 1, 0, 1)}, 2, state)
}

// TestImmediates goes through small immediate operands, and those at and around each end of the range of each operation.
func TestImmediates(t *testing.T) {
	for _, f := range forms() {
		list := []int64{math.MinInt64, math.MinInt64 + 1, -1 << 32, -256, -16, 1<<32 + 1, 1<<32 + f.low, 1 << 62, math.MaxInt64 - 1, math.MaxInt64, f.low - 1, f.low + 1, f.high - 1, f.high + 1, 1_000_015, 1_000_016, 1_000_017}
		for imm := range int64(300) {
			list = append(list, imm-20)
		}
		for _, imm := range list {
			want := malformed
			if imm >= f.low && imm <= f.high {
				want = f.result(imm)
			}
			checkHere(t, "immediate operand", node(f.op, imm, kids(f.operands)...), want)
		}
	}
}

// TestLoopVariableNumbers has variable 0, the state, of each loop, and the variables around it.
func TestLoopVariableNumbers(t *testing.T) {
	for number := range int64(16) {
		checkHere(t, "state", node(api.OpLoopVar, 16*number), state)
		for variable := int64(1); variable < 16; variable++ {
			checkHere(t, "value", node(api.OpLoopVar, 16*number+variable), value)
		}
	}
	checkHere(t, "loop 16", node(api.OpLoopVar, 256), malformed)
	checkHere(t, "loop -1", node(api.OpLoopVar, -16), malformed)
}

// TestLoopResults asks for each variable of loops with each number of them.
func TestLoopResults(t *testing.T) {
	for variables := 1; variables <= 16; variables++ {
		var g graph
		entry, number := g.add(api.OpEntry, 0), g.add(api.OpConst, 1)
		around := g.add(api.OpLoop, 15, loopKids(variables, entry, number)...)
		for _, imm := range []int64{0, 1, 2, int64(variables) - 2, int64(variables) - 1, int64(variables), int64(variables) + 1, 15, 16, 17, 2 * int64(variables), -1, 1 << 32, math.MinInt64, math.MaxInt64} {
			want := malformed
			if imm >= 0 && imm < int64(variables) {
				want = variable(imm)
			}
			result := g.add(api.OpLoopResult, imm, around)
			checkSort(t, fmt.Sprintf("result %d of %d variables", imm, variables), g.nodes, result, want)
		}
	}
}

// loopKids returns the operands of a loop whose states are all the same, and its values, too.
func loopKids(variables, state, value int) []int {
	half := append([]int{state}, listOf(variables-1, value)...)
	return slices.Concat(half, []int{value}, half)
}

// TestEachWrongOperand replaces each operand of each form.
func TestEachWrongOperand(t *testing.T) {
	for _, f := range forms() {
		right := kids(f.operands)
		for place := range right {
			for _, wrong := range wrongOperands(f.operands[place]) {
				changed := slices.Clone(right)
				changed[place] = wrong
				checkHere(t, fmt.Sprintf("operand %d wrong", place), node(f.op, f.low, changed...), malformed)
			}
			for _, other := range choices(f.operands[place]) {
				changed := slices.Clone(right)
				changed[place] = other
				checkHere(t, fmt.Sprintf("operand %d", place), node(f.op, f.low, changed...), f.result(f.low))
			}
		}
	}
}

// TestOperandsOfAllSorts has up to 5 operands of all combinations of sorts, for known and unknown operations.
func TestOperandsOfAllSorts(t *testing.T) {
	combinations := []string{""}
	for i := 0; len(combinations[i]) < 5; i++ {
		for _, letter := range []string{"v", "s", "l"} {
			combinations = append(combinations, combinations[i]+letter)
		}
	}
	for op := -2; op <= api.OpLoop+3; op++ {
		for _, operands := range combinations {
			for imm := range int64(2) {
				want := malformed
				if f, ok := formOf(op, operands); ok && imm >= f.low && imm <= f.high {
					want = f.result(imm)
				}
				checkHere(t, "operands "+operands, node(op, imm, kids(operands)...), want)
			}
		}
	}
}

// TestNumbersOfOperands leaves out each operand of each form, and adds one of each sort at each place.
func TestNumbersOfOperands(t *testing.T) {
	for _, f := range forms() {
		for place := range len(f.operands) + 1 {
			if place < len(f.operands) {
				checkOperands(t, f, f.operands[:place]+f.operands[place+1:])
			}
			for _, letter := range []string{"v", "s", "l"} {
				checkOperands(t, f, f.operands[:place]+letter+f.operands[place:])
			}
		}
	}
}

// checkOperands checks the operation of a form with other operands, which may make up another form.
func checkOperands(t *testing.T, f form, operands string) {
	t.Helper()
	want := malformed
	if other, ok := formOf(f.op, operands); ok {
		want = other.result(f.low)
	}
	checkHere(t, "operands "+operands, node(f.op, f.low, kids(operands)...), want)
}

func TestNumbersOfArguments(t *testing.T) {
	for arguments := range 40 {
		want := malformed
		if arguments <= api.MaxParams {
			want = state
		}
		operands := append([]int{firstState}, listOf(arguments, firstValue)...)
		checkHere(t, "call", node(api.OpCall, 0, operands...), want)
	}
	checkHere(t, "call without operands", node(api.OpCall, 0), malformed)
	checkHere(t, "call of a value", node(api.OpCall, 0, firstValue), malformed)
}

func TestNumbersOfLoopVariables(t *testing.T) {
	for variables := 1; variables <= 40; variables++ {
		want := malformed
		if variables <= api.MaxVars {
			want = loop
		}
		operands := loopKids(variables, firstState, firstValue)
		checkHere(t, "loop", node(api.OpLoop, 0, operands...), want)
		checkHere(t, "loop with a value less", node(api.OpLoop, 0, operands[:len(operands)-1]...), malformed)
		checkHere(t, "loop with a value more", node(api.OpLoop, 0, append(operands, firstValue)...), malformed)
		checkHere(t, "loop with a state more", node(api.OpLoop, 0, append(operands, firstState)...), malformed)
	}
	checkHere(t, "loop without operands", node(api.OpLoop, 0), malformed)
	checkHere(t, "loop without variables", node(api.OpLoop, 0, firstValue), malformed)
	checkHere(t, "loop of a state", node(api.OpLoop, 0, firstState), malformed)
}

// TestUnknownOperations has the operands and immediate operands of all known ones.
func TestUnknownOperations(t *testing.T) {
	for _, op := range append([]int{0, api.OpLoop + 1, api.OpLoop + 2, 256 + api.OpConst, 1<<32 + api.OpConst, 1<<32 + api.OpEntry}, extremes...) {
		for _, f := range forms() {
			checkHere(t, "unknown operation", node(op, f.low, kids(f.operands)...), malformed)
			checkHere(t, "unknown operation", node(op, f.high, kids(f.operands)...), malformed)
		}
	}
}

// TestSelectionsOfTwoSorts has alternatives of the same sort, and of different ones.
func TestSelectionsOfTwoSorts(t *testing.T) {
	for operands, want := range map[string]int{
		"vvv": value, "vss": state, "vvs": malformed, "vsv": malformed, "vll": malformed, "vvl": malformed, "vlv": malformed, "vsl": malformed, "vls": malformed,
		"svv": malformed, "sss": malformed, "lvv": malformed, "lss": malformed, "vv": malformed, "vs": malformed, "vvvv": malformed, "vsss": malformed,
	} {
		checkHere(t, "selection", node(api.OpSelect, 0, kids(operands)...), want)
	}
	checkHere(t, "the same value", node(api.OpSelect, 0, firstValue, firstValue, firstValue), value)
	checkHere(t, "the same state", node(api.OpSelect, 0, firstValue, firstState, firstState), state)
	// A selection is in turn an operand of its sort.
	l := neighbourhood(node(api.OpSelect, 0, firstValue, firstState, secondState))
	l = append(l, node(api.OpSelect, 0, secondValue, here, variableState), node(api.OpSelect, 0, here, firstValue, firstValue), node(api.OpOutput, 0, here, firstValue))
	for i, want := range []int{state, malformed, state} {
		checkSort(t, "selection of a selection", l, laterLoop+1+i, want)
	}
}

// TestMalformedOperandsAtADistance: whatever uses a malformed node is malformed, at any distance. What does not use it is not.
func TestMalformedOperandsAtADistance(t *testing.T) {
	for _, broken := range []api.Node{node(0, 0), node(api.OpConst, 0, 0), node(api.OpParam, 6), node(api.OpNot, 0, 2), node(api.OpNot, 0, -1), node(api.OpNot, 0, 0), node(api.OpSub, 0, 1)} {
		l := []api.Node{node(api.OpEntry, 0), node(api.OpConst, 1), broken, node(api.OpNeg, 0, 2), node(api.OpNeg, 0, 1), node(api.OpMul, 0, 4, 3), node(api.OpOutput, 0, 0, 5), node(api.OpOutput, 0, 0, 4), node(api.OpSelect, 0, 1, 7, 6), node(api.OpCall, 0, 7, 1, 1, 1, 1, 1, 5), node(api.OpLoop, 0, 7, 1, 9), node(api.OpLoopResult, 0, 10), node(api.OpLoop, 0, 7, 1, 7)}
		for i, want := range []int{state, value, malformed, malformed, value, malformed, malformed, state, malformed, malformed, malformed, malformed, loop} {
			checkSort(t, fmt.Sprintf("node %d with %s", i, nodeText(broken)), l, i, want)
		}
	}
}

func TestSortWithoutNode(t *testing.T) {
	for _, l := range [][]api.Node{nil, {}, {node(api.OpConst, 1)}, neighbourhood(node(api.OpConst, 1)), make([]api.Node, 3)} {
		for _, i := range append([]int{len(l), len(l) + 1, -len(l) - 1, 1<<32 + len(l)}, extremes...) {
			checkSort(t, fmt.Sprintf("index %d of %d nodes", i, len(l)), l, i, malformed)
		}
	}
	checkSort(t, "nil", nil, 0, malformed)
	checkSort(t, "zero node", make([]api.Node, 1), 0, malformed)
	checkSort(t, "nil Kids", []api.Node{{Op: api.OpEntry}}, 0, state)
	checkSort(t, "empty Kids", []api.Node{{Op: api.OpEntry, Kids: []int{}}}, 0, state)
}

// TestSortOfLargeLists: no list may take long, or be too deep.
func TestSortOfLargeLists(t *testing.T) {
	const length = 1_000_000
	for what, op := range map[string]int{"chain": api.OpNot, "ladder": api.OpAdd, "double ladder": api.OpSelect} {
		l := make([]api.Node, 0, length)
		l = append(l, node(api.OpConst, 1))
		arity, _ := ir.Arity(op)
		for i := 1; i < length; i++ {
			l = append(l, node(op, 0, listOf(arity, i-1)...))
		}
		checkSort(t, what, l, length-1, value)
		l[0].Kids = []int{0}
		checkSort(t, what+" on a malformed node", l, length-1, malformed)
	}
	wide := listOf(length, 0)
	for op := range api.OpLoop + 2 {
		checkSort(t, "wide node", []api.Node{node(api.OpEntry, 0), node(op, 0, wide...)}, 1, malformed)
	}
	broken := make([]api.Node, length)
	checkSort(t, "malformed nodes", broken, length-1, malformed)
	broken[length-1] = node(api.OpConst, 1)
	checkSort(t, "behind malformed nodes", broken, length-1, value)
}

// TestSortOfSharedOperands: nodes with very many operands are malformed, and must not take long even if they share them.
func TestSortOfSharedOperands(t *testing.T) {
	const length = 300_000
	operands := make([]int, length)
	for i := range operands {
		operands[i] = i
	}
	for _, op := range []int{0, api.OpConst, api.OpAdd, api.OpCall, api.OpLoop} {
		l := listOf(length, node(op, 0, operands...))
		checkSort(t, "shared operands", l, length-1, malformed)
		checkDependencies(t, "shared operands", l, length-1)
		checkValid(t, "shared operands", unit(api.Graph{Nodes: l[:api.MaxNodes], Value: 1, State: 0}), false)
	}
}

func TestSortChangesNothing(t *testing.T) {
	for _, f := range forms() {
		original := neighbourhood(node(f.op, f.low, kids(f.operands)...))
		l := cloneNodes(original)
		for i := -1; i <= len(l); i++ {
			if first, second := ir.Sort(l, i), ir.Sort(l, i); first != second {
				t.Errorf("%s: Sort = %d, then %d", nodeText(original[here]), first, second)
			}
		}
		checkUnchanged(t, "Sort", l, original)
	}
}
