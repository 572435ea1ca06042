package ir_test

import (
	"math"
	"strings"

	"fulling/api"
)

// form describes the well-formed nodes of an operation with operands of the given sorts: a letter each, v for a value, s for a state, l for a loop.
type form struct {
	op        int
	operands  string
	low, high int64 // the range of Imm
	result    func(imm int64) int
}

// The results of the operations.
func toValue(int64) int { return value }

func toState(int64) int { return state }

func toLoop(int64) int { return loop }

// forms lists all forms of all operations. A loop in an operand has resultVariables variables.
func forms() []form {
	list := []form{
		{api.OpConst, "", math.MinInt64, math.MaxInt64, toValue},
		{api.OpParam, "", 0, 5, toValue},
		{api.OpLoopVar, "", 0, 255, variable},
		{api.OpNeg, "v", 0, 0, toValue},
		{api.OpNot, "v", 0, 0, toValue},
		{api.OpSelect, "vvv", 0, 0, toValue},
		{api.OpSelect, "vss", 0, 0, toState},
		{api.OpLoad, "sv", 0, 3, toValue},
		{api.OpCallResult, "s", 0, 0, toValue},
		{api.OpLoopResult, "l", 0, resultVariables - 1, variable},
		{api.OpEntry, "", 0, 0, toState},
		{api.OpGuard, "sv", 1, 1_000_016, toState},
		{api.OpStore, "svv", 0, 3, toState},
		{api.OpOutput, "sv", 0, 0, toState},
	}
	for op := api.OpAdd; op <= api.OpLtu; op++ {
		list = append(list, form{op, "vv", 0, 0, toValue})
	}
	for arguments := range 7 {
		list = append(list, form{api.OpCall, "s" + strings.Repeat("v", arguments), 0, 7, toState})
	}
	for variables := 1; variables <= 16; variables++ {
		values := strings.Repeat("v", variables-1)
		list = append(list, form{api.OpLoop, "s" + values + "v" + "s" + values, 0, 15, toLoop})
	}
	return list
}

// variable is the sort of a loop variable. The number of the loop, if there is one, makes no difference.
func variable(imm int64) int {
	if imm%16 == 0 {
		return state
	}
	return value
}

type formKey struct {
	op       int
	operands string
}

// formsByKey and formsByOp are indices of the forms.
var formsByKey, formsByOp = func() (map[formKey]form, map[int][]form) {
	byKey, byOp := map[formKey]form{}, map[int][]form{}
	for _, f := range forms() {
		byKey[formKey{f.op, f.operands}] = f
		byOp[f.op] = append(byOp[f.op], f)
	}
	return byKey, byOp
}()

// formOf returns the form of an operation with operands of the given sorts, if there is one.
func formOf(op int, operands string) (form, bool) {
	f, ok := formsByKey[formKey{op, operands}]
	return f, ok
}

// The nodes of the list that neighbourhood returns.
const (
	firstState = iota
	firstValue
	secondValue
	secondState
	variableState
	variableValue
	firstLoop
	malformedValue
	malformedState
	malformedLoop
	here
	laterValue
	laterState
	laterLoop
)

const resultVariables = 2

// neighbourhood returns a list that has the given node at index here, and well-formed and malformed nodes of every sort around it.
func neighbourhood(n api.Node) []api.Node {
	return []api.Node{
		node(api.OpEntry, 0),
		node(api.OpConst, 7),
		node(api.OpParam, 0),
		node(api.OpOutput, 0, firstState, firstValue),
		node(api.OpLoopVar, 16),
		node(api.OpLoopVar, 17),
		node(api.OpLoop, 1, firstState, firstValue, variableValue, variableState, secondValue),
		node(api.OpAdd, 0, firstValue, firstState),
		node(api.OpGuard, 0, firstState, firstValue),
		node(api.OpLoop, 16, firstState, firstValue, firstState),
		n,
		node(api.OpConst, 8),
		node(api.OpEntry, 0),
		node(api.OpLoop, 2, firstState, firstValue, firstState),
	}
}

// choices returns the nodes of each sort that precede node here, as letters of operands.
func choices(letter byte) []int {
	switch letter {
	case 'v':
		return []int{firstValue, secondValue, variableValue}
	case 's':
		return []int{secondState, firstState, variableState}
	}
	return []int{firstLoop}
}

// kids returns operands of the given sorts.
func kids(operands string) []int {
	var result []int
	for i := range len(operands) {
		list := choices(operands[i])
		result = append(result, list[i%len(list)])
	}
	return result
}

// wrongOperands returns operands that are wrong wherever one of the given sort is wanted.
func wrongOperands(letter byte) []int {
	result := append([]int{here, laterValue, laterState, laterLoop, malformedValue, malformedState, malformedLoop, laterLoop + 1, laterLoop + 2, firstValue - 1<<32, firstValue + 1<<32, firstState + 1<<32, firstLoop + 1<<32}, extremes...)
	for _, other := range []byte("vsl") {
		if other != letter {
			result = append(result, choices(other)...)
		}
	}
	return result
}
