package word_test

import (
	"math"
	"math/big"
	"strings"
	"testing"

	"fulling/api"
	"fulling/word"
)

const (
	smallest = math.MinInt64
	largest  = math.MaxInt64
)

type binaryCase struct {
	op         int
	a, b, want int64
}

func checkBinary(t *testing.T, cases []binaryCase) {
	t.Helper()
	for _, c := range cases {
		if got := word.Binary(c.op, c.a, c.b); got != c.want {
			t.Errorf("Binary(%d, %d, %d) = %d, want %d", c.op, c.a, c.b, got, c.want)
		}
	}
}

// Promise 1.1, Unary.

func TestUnary(t *testing.T) {
	for _, c := range []struct {
		op      int
		a, want int64
	}{
		{api.OpNeg, 0, 0},
		{api.OpNeg, 7, -7},
		{api.OpNeg, -7, 7},
		{api.OpNeg, largest, -largest},
		{api.OpNeg, smallest, smallest},
		{api.OpNot, 0, -1},
		{api.OpNot, -1, 0},
		{api.OpNot, 5, -6},
		{api.OpNot, largest, smallest},
		{api.OpNot, smallest, largest},
	} {
		if got := word.Unary(c.op, c.a); got != c.want {
			t.Errorf("Unary(%d, %d) = %d, want %d", c.op, c.a, got, c.want)
		}
	}
}

// Promise 1.1, Binary.

func TestExamplesOfTheChapter(t *testing.T) {
	checkBinary(t, []binaryCase{
		{api.OpDiv, -7, 2, -3},
		{api.OpRem, -7, 2, -1},
		{api.OpShl, 1, 64, 1},
	})
}

func TestSumsDifferencesAndProductsWrapAround(t *testing.T) {
	checkBinary(t, []binaryCase{
		{api.OpAdd, 2, 3, 5},
		{api.OpAdd, largest, 1, smallest},
		{api.OpAdd, smallest, -1, largest},
		{api.OpAdd, smallest, smallest, 0},
		{api.OpSub, 2, 3, -1},
		{api.OpSub, smallest, 1, largest},
		{api.OpSub, 0, smallest, smallest},
		{api.OpMul, -3, 5, -15},
		{api.OpMul, largest, 2, -2},
		{api.OpMul, smallest, -1, smallest},
		{api.OpMul, 1 << 32, 1 << 32, 0},
	})
}

func TestDivisionTruncatesTowardZero(t *testing.T) {
	checkBinary(t, []binaryCase{
		{api.OpDiv, 7, 2, 3},
		{api.OpDiv, 7, -2, -3},
		{api.OpDiv, -7, -2, 3},
		{api.OpDiv, 1, 2, 0},
		{api.OpDiv, -1, 2, 0},
		{api.OpRem, 7, 2, 1},
		{api.OpRem, 7, -2, 1},
		{api.OpRem, -7, -2, -1},
		{api.OpRem, -1, 2, -1},
		{api.OpRem, 6, 3, 0},
	})
}

func TestDivisionByZeroYieldsZero(t *testing.T) {
	for _, a := range edgeWords() {
		checkBinary(t, []binaryCase{{api.OpDiv, a, 0, 0}, {api.OpRem, a, 0, 0}})
	}
}

func TestSmallestWordDividedByMinusOne(t *testing.T) {
	checkBinary(t, []binaryCase{
		{api.OpDiv, smallest, -1, smallest},
		{api.OpRem, smallest, -1, 0},
	})
}

func TestBitwiseOperations(t *testing.T) {
	checkBinary(t, []binaryCase{
		{api.OpAnd, 0b1100, 0b1010, 0b1000},
		{api.OpOr, 0b1100, 0b1010, 0b1110},
		{api.OpXor, 0b1100, 0b1010, 0b0110},
		{api.OpAnd, -1, smallest, smallest},
		{api.OpOr, largest, smallest, -1},
		{api.OpXor, -1, smallest, largest},
	})
}

func TestShiftsFill(t *testing.T) {
	checkBinary(t, []binaryCase{
		{api.OpShl, 3, 2, 12},
		{api.OpShl, 3, 63, smallest},
		{api.OpShl, -1, 1, -2},
		{api.OpShr, 12, 2, 3},
		{api.OpShr, -1, 1, largest},
		{api.OpShr, smallest, 63, 1},
		{api.OpSar, 12, 2, 3},
		{api.OpSar, -1, 1, -1},
		{api.OpSar, -7, 1, -4},
		{api.OpSar, smallest, 63, -1},
		{api.OpSar, largest, 63, 0},
	})
}

func TestShiftsUseOnlyTheLowestSixBitsOfTheCount(t *testing.T) {
	counts := []int64{0, 1, 31, 32, 62, 63}
	beyond := []int64{64, 128, 256, 1 << 32, 1 << 62, smallest, -64, -128, -1 << 40}
	for _, op := range []int{api.OpShl, api.OpShr, api.OpSar} {
		for _, a := range edgeWords() {
			for _, n := range counts {
				for _, m := range beyond {
					checkBinary(t, []binaryCase{{op, a, m + n, word.Binary(op, a, n)}})
				}
			}
		}
	}
	checkBinary(t, []binaryCase{
		{api.OpShl, 5, 0, 5},
		{api.OpShl, 1, -1, smallest},
		{api.OpShr, -1, -1, 1},
		{api.OpShr, -8, 64, -8},
		{api.OpSar, smallest, -1, -1},
		{api.OpSar, 8, 65, 4},
		{api.OpShl, 1, largest, smallest},
		{api.OpShl, 1, smallest, 1},
	})
}

func TestComparisons(t *testing.T) {
	pairs := []struct {
		a, b                int64
		eq, ne, lt, le, ltu int64
	}{
		{0, 0, 1, 0, 0, 1, 0},
		{1, 2, 0, 1, 1, 1, 1},
		{2, 1, 0, 1, 0, 0, 0},
		{-1, 0, 0, 1, 1, 1, 0},
		{0, -1, 0, 1, 0, 0, 1},
		{-2, -1, 0, 1, 1, 1, 1},
		{-1, -2, 0, 1, 0, 0, 0},
		{-1, -1, 1, 0, 0, 1, 0},
		{smallest, largest, 0, 1, 1, 1, 0},
		{largest, smallest, 0, 1, 0, 0, 1},
	}
	for _, p := range pairs {
		checkBinary(t, []binaryCase{
			{api.OpEq, p.a, p.b, p.eq},
			{api.OpNe, p.a, p.b, p.ne},
			{api.OpLt, p.a, p.b, p.lt},
			{api.OpLe, p.a, p.b, p.le},
			{api.OpLtu, p.a, p.b, p.ltu},
		})
	}
}

// edgeWords returns the words around which the operations change their behaviour.
func edgeWords() []int64 {
	words := []int64{0, 1, 2, 3, 5, 7, 10, 62, 63, 64, 65, 127, 128, 1<<31 - 1, 1 << 31, 1 << 32, 1<<53 + 1, 1 << 62, largest - 1, largest}
	for _, w := range words[1:] {
		words = append(words, -w)
	}
	return append(words, smallest, smallest+2, 0x5555555555555555, -0x5555555555555556, 0x0123456789abcdef)
}

// mixedWords returns n words without a pattern. They are the same in every run.
func mixedWords(n int) []int64 {
	words := make([]int64, n)
	x := uint64(88172645463325252)
	for i := range words {
		x ^= x << 13
		x ^= x >> 7
		x ^= x << 17
		words[i] = int64(x)
	}
	return words
}

func TestAgreesWithExactArithmetic(t *testing.T) {
	words := append(edgeWords(), mixedWords(60)...)
	for op := api.OpAdd; op <= api.OpLtu; op++ {
		for _, a := range words {
			for _, b := range words {
				checkBinary(t, []binaryCase{{op, a, b, exactBinary(op, a, b)}})
			}
		}
	}
	for _, a := range words {
		x := big.NewInt(a)
		if got, want := word.Unary(api.OpNeg, a), reduce(new(big.Int).Neg(x)); got != want {
			t.Errorf("Unary(OpNeg, %d) = %d, want %d", a, got, want)
		}
		if got, want := word.Unary(api.OpNot, a), reduce(new(big.Int).Not(x)); got != want {
			t.Errorf("Unary(OpNot, %d) = %d, want %d", a, got, want)
		}
	}
}

// exactBinary computes with unbounded integers and reduces the result, so that it shares no wraparound with the program.
func exactBinary(op int, a, b int64) int64 {
	x, y, z := big.NewInt(a), big.NewInt(b), new(big.Int)
	count := uint(new(big.Int).Mod(y, big.NewInt(64)).Uint64())
	switch op {
	case api.OpAdd:
		return reduce(z.Add(x, y))
	case api.OpSub:
		return reduce(z.Sub(x, y))
	case api.OpMul:
		return reduce(z.Mul(x, y))
	case api.OpDiv, api.OpRem:
		if b == 0 {
			return 0
		}
		quotient, remainder := z.QuoRem(x, y, new(big.Int))
		if op == api.OpDiv {
			return reduce(quotient)
		}
		return reduce(remainder)
	case api.OpAnd:
		return reduce(z.And(x, y))
	case api.OpOr:
		return reduce(z.Or(x, y))
	case api.OpXor:
		return reduce(z.Xor(x, y))
	case api.OpShl:
		return reduce(z.Lsh(x, count))
	case api.OpShr:
		return reduce(z.Rsh(unsigned(a), count))
	case api.OpSar:
		return reduce(z.Rsh(x, count))
	case api.OpEq:
		return bit(x.Cmp(y) == 0)
	case api.OpNe:
		return bit(x.Cmp(y) != 0)
	case api.OpLt:
		return bit(x.Cmp(y) < 0)
	case api.OpLe:
		return bit(x.Cmp(y) <= 0)
	}
	return bit(unsigned(a).Cmp(unsigned(b)) < 0)
}

func twoToThe64() *big.Int { return new(big.Int).Lsh(big.NewInt(1), 64) }

// unsigned returns the number from 0 to 2^64 - 1 that is congruent to a.
func unsigned(a int64) *big.Int {
	return new(big.Int).Mod(big.NewInt(a), twoToThe64())
}

// reduce returns the word that is congruent to x modulo 2^64.
func reduce(x *big.Int) int64 {
	r := new(big.Int).Mod(x, twoToThe64())
	if r.Bit(63) == 1 {
		r.Sub(r, twoToThe64())
	}
	return r.Int64()
}

func bit(holds bool) int64 {
	if holds {
		return 1
	}
	return 0
}

func TestOtherOperationsYieldZero(t *testing.T) {
	ops := []int{math.MinInt, math.MinInt + api.OpAdd, math.MaxInt, 1<<32 + api.OpAdd, 1<<32 + api.OpNot, -1 << 32}
	for op := -300; op <= 300; op++ {
		ops = append(ops, op)
	}
	for _, op := range ops {
		isUnary := op == api.OpNeg || op == api.OpNot
		isBinary := api.OpAdd <= op && op <= api.OpLtu
		for _, a := range []int64{5, -5, 0, largest, smallest} {
			if got := word.Unary(op, a); !isUnary && got != 0 {
				t.Errorf("Unary(%d, %d) = %d, want 0", op, a, got)
			}
			for _, b := range []int64{5, 3, -2, 0} {
				if got := word.Binary(op, a, b); !isBinary && got != 0 {
					t.Errorf("Binary(%d, %d, %d) = %d, want 0", op, a, b, got)
				}
			}
		}
	}
}

// Promise 1.2.

func checkText(t *testing.T, n int64, s string) {
	t.Helper()
	if got := word.Text(n); got != s {
		t.Errorf("Text(%d) = %q, want %q", n, got, s)
	}
	if got, ok := word.Parse(s); got != n || !ok {
		t.Errorf("Parse(%q) = %d, %v, want %d, true", s, got, ok, n)
	}
}

func checkNoText(t *testing.T, s string) {
	t.Helper()
	if got, ok := word.Parse(s); got != 0 || ok {
		t.Errorf("Parse(%q) = %d, %v, want 0, false", s, got, ok)
	}
}

func TestTextAndParse(t *testing.T) {
	checkText(t, 0, "0")
	checkText(t, 7, "7")
	checkText(t, -7, "-7")
	checkText(t, 10, "10")
	checkText(t, -100, "-100")
	checkText(t, 1234567890, "1234567890")
	checkText(t, 999999999999999999, "999999999999999999")
	checkText(t, 1000000000000000000, "1000000000000000000")
	checkText(t, largest, "9223372036854775807")
	checkText(t, smallest, "-9223372036854775808")
	checkText(t, smallest+1, "-9223372036854775807")
}

func TestParseInvertsText(t *testing.T) {
	for _, n := range append(edgeWords(), mixedWords(1000)...) {
		checkText(t, n, big.NewInt(n).String())
		checkText(t, n>>33, big.NewInt(n>>33).String())
	}
}

func TestParseRejectsNumbersOutsideTheRangeOfAWord(t *testing.T) {
	for _, s := range []string{
		"9223372036854775808", "-9223372036854775809", "9999999999999999999", "-9999999999999999999",
		"10000000000000000000", "-10000000000000000000", "18446744073709551615", "18446744073709551616", "18446744073709551617",
		"-18446744073709551616", "-18446744073709551617", "99999999999999999999", "340282366920938463463374607431768211457",
		"1" + strings.Repeat("0", 100000), "-" + strings.Repeat("9", 100000),
	} {
		checkNoText(t, s)
	}
}

func TestParseRejectsOtherSpellings(t *testing.T) {
	for _, s := range []string{
		"", "-", "--", "+", "+1", "+0", "-+1", "+-1", "--1", "1-", "1-2",
		"-0", "00", "-00", "07", "-07", "000", "0000000000000000000000001", "-0000000000000000000000001", "09223372036854775807",
		" ", " 1", "1 ", "- 1", "1\n", "\t1", "1\x00", "\x001", "1_0", "1,0", "1.0", "1e3", "0x1", "0b1", "0o7", "0X1F", "a", "1a", "a1", "inf", "NaN",
		"1/", "1:", "/", ":", "\xff", "1\xff", "\u0661", "\uff11", "\u22121",
	} {
		checkNoText(t, s)
	}
}

// A text is accepted exactly if it is the text of a word: the numbers from -9999 to 99999 have all the texts that these short strings can be.
func TestParseAcceptsExactlyTheTextsOfWords(t *testing.T) {
	texts := map[string]int64{}
	for n := int64(-9999); n <= 99999; n++ {
		texts[big.NewInt(n).String()] = n
	}
	check := func(s string) {
		if n, isText := texts[s]; isText {
			checkText(t, n, s)
		} else {
			checkNoText(t, s)
		}
	}
	forEachString("-+0129 _a/:", 5, check)
	allBytes := make([]byte, 256)
	for i := range allBytes {
		allBytes[i] = byte(i)
	}
	forEachString(string(allBytes), 2, check)
}

// forEachString calls f for all strings of at most most bytes, all of them from the alphabet.
func forEachString(alphabet string, most int, f func(string)) {
	level := []string{""}
	for length := 0; ; length++ {
		for _, s := range level {
			f(s)
		}
		if length == most {
			return
		}
		var next []string
		for _, s := range level {
			for i := range len(alphabet) {
				next = append(next, s+alphabet[i:i+1])
			}
		}
		level = next
	}
}
