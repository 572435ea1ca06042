package ir_test

import (
	"math"
	"testing"

	"fulling/api"
	"fulling/ir"
)

// Promise 7.1.

func checkArity(t *testing.T, op, want int, wantKnown bool) {
	t.Helper()
	if got, known := ir.Arity(op); got != want || known != wantKnown {
		t.Errorf("Arity(%d) = %d, %v, want %d, %v", op, got, known, want, wantKnown)
	}
}

func TestArity(t *testing.T) {
	for arity, ops := range map[int][]int{
		0:  {api.OpConst, api.OpParam, api.OpLoopVar, api.OpEntry},
		1:  {api.OpNeg, api.OpNot, api.OpCallResult, api.OpLoopResult},
		2:  {api.OpAdd, api.OpSub, api.OpMul, api.OpDiv, api.OpRem, api.OpAnd, api.OpOr, api.OpXor, api.OpShl, api.OpShr, api.OpSar, api.OpEq, api.OpNe, api.OpLt, api.OpLe, api.OpLtu, api.OpLoad, api.OpGuard, api.OpOutput},
		3:  {api.OpSelect, api.OpStore},
		-1: {api.OpCall, api.OpLoop},
	} {
		for _, op := range ops {
			checkArity(t, op, arity, true)
		}
	}
}

// TestArityOfOrdinals lists the operations in their order, so that none is left out.
func TestArityOfOrdinals(t *testing.T) {
	arities := []int{0, 0, 0, 2, 2, 2, 2, 2, 2, 2, 2, 2, 2, 2, 2, 2, 2, 2, 2, 1, 1, 3, 2, 1, 1, 0, 2, 3, 2, -1, -1}
	if len(arities) != api.OpLoop {
		t.Fatalf("wrong test: %d operations, want %d", len(arities), api.OpLoop)
	}
	for i, arity := range arities {
		checkArity(t, 1+i, arity, true)
	}
}

func TestArityOfUnknownOperations(t *testing.T) {
	for _, op := range []int{0, -1, -2, -api.OpLoop, api.OpLoop + 1, api.OpLoop + 2, 64, 128, 255, 256, 256 + api.OpAdd, 1<<32 + api.OpAdd, -1<<32 + api.OpAdd, math.MinInt, math.MinInt + api.OpAdd, math.MaxInt} {
		checkArity(t, op, 0, false)
	}
	for op := -300; op <= 0; op++ {
		checkArity(t, op, 0, false)
		checkArity(t, api.OpLoop+1-op, 0, false)
	}
}
