// Package word is the arithmetic on 64-bit words that the interpreter, the graph evaluator and the machine share, so that they cannot disagree about a result.
package word

import (
	"strconv"

	"fulling/api"
)

// Unary returns the result of OpNeg or OpNot, and 0 for every other operation.
func Unary(op int, a int64) int64 {
	switch op {
	case api.OpNeg:
		return -a
	case api.OpNot:
		return ^a
	}
	return 0
}

// Binary returns the result of OpAdd to OpLtu, and 0 for every other operation.
func Binary(op int, a, b int64) int64 {
	switch op {
	case api.OpAdd:
		return a + b
	case api.OpSub:
		return a - b
	case api.OpMul:
		return a * b
	case api.OpDiv:
		return quotient(a, b)
	case api.OpRem:
		return remainder(a, b)
	case api.OpAnd:
		return a & b
	case api.OpOr:
		return a | b
	case api.OpXor:
		return a ^ b
	case api.OpShl:
		return a << shiftCount(b)
	case api.OpShr:
		return int64(uint64(a) >> shiftCount(b))
	case api.OpSar:
		return a >> shiftCount(b)
	case api.OpEq:
		return truth(a == b)
	case api.OpNe:
		return truth(a != b)
	case api.OpLt:
		return truth(a < b)
	case api.OpLe:
		return truth(a <= b)
	case api.OpLtu:
		return truth(uint64(a) < uint64(b))
	}
	return 0
}

// quotient is total because values are: a program that must trap on a zero divisor checks for it with OpGuard.
// The smallest word divided by -1 needs no case of its own: Go defines that quotient to wrap around.
func quotient(a, b int64) int64 {
	if b == 0 {
		return 0
	}
	return a / b
}

// remainder is 0, not a, for a zero divisor; otherwise Go's % agrees with quotient, also for the smallest word and -1.
func remainder(a, b int64) int64 {
	if b == 0 {
		return 0
	}
	return a % b
}

// shiftCount reduces b to the range 0 to 63, because Go itself panics for a negative count and shifts everything out for 64 and more.
func shiftCount(b int64) uint64 {
	return uint64(b) & 63
}

func truth(holds bool) int64 {
	if holds {
		return 1
	}
	return 0
}

// Text formats a word in decimal, with a leading "-" if it is negative.
func Text(n int64) string {
	return strconv.FormatInt(n, 10)
}

// smallestMagnitude is the absolute value of the smallest word, one more than that of the largest.
const smallestMagnitude = 1 << 63

// maxDigits is the length of the longest words, without a sign. A number of so many digits fits in a uint64, so that reading one cannot overflow.
const maxDigits = 19

// Parse is the inverse of Text: it accepts exactly the strings that Text returns.
func Parse(s string) (int64, bool) {
	if s != "" && s[0] == '-' {
		m, ok := parseMagnitude(s[1:])
		if !ok || m == 0 || m > smallestMagnitude {
			return 0, false
		}
		return -int64(m), true
	}
	m, ok := parseMagnitude(s)
	if !ok || m >= smallestMagnitude {
		return 0, false
	}
	return int64(m), true
}

// parseMagnitude reads a number without a sign. It rejects leading zeros, so that each number has one text only.
func parseMagnitude(digits string) (uint64, bool) {
	if digits == "" || len(digits) > maxDigits || digits[0] == '0' && digits != "0" {
		return 0, false
	}
	var m uint64
	for i := range len(digits) {
		c := digits[i]
		if c < '0' || c > '9' {
			return 0, false
		}
		m = m*10 + uint64(c-'0')
	}
	return m, true
}
