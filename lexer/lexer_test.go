package lexer_test

import (
	"fmt"
	"math/big"
	"regexp"
	"slices"
	"strings"
	"testing"

	"fulling/api"
	"fulling/lexer"
)

// tokens returns the expected tokens of text, given their texts in order: each is searched behind the one before.
// The first byte of a token's text tells its kind.
func tokens(t *testing.T, text string, parts ...string) []api.Token {
	t.Helper()
	var result []api.Token
	end := 0
	for _, part := range parts {
		skipped := strings.Index(text[end:], part)
		if skipped < 0 {
			t.Fatalf("wrong test: no %q in the rest of %q", part, text)
		}
		at := end + skipped
		result = append(result, api.Token{Kind: kindOf(part[0]), Text: part, At: at})
		end = at + len(part)
	}
	return result
}

func kindOf(first byte) int {
	switch {
	case '0' <= first && first <= '9':
		return api.TokenNumber
	case first == '_' || 'a' <= first && first <= 'z' || 'A' <= first && first <= 'Z':
		return api.TokenName
	}
	return api.TokenSymbol
}

func checkTokens(t *testing.T, text string, want []api.Token) {
	t.Helper()
	got, err := lexer.Scan(text)
	if !slices.Equal(got, want) || err != (api.Err{}) {
		t.Errorf("Scan(%.40q) = %v, %v, want %v", text, got, err, want)
	}
}

// checkError also checks that no tokens come with an error (R3).
func checkError(t *testing.T, text string, why api.Errno, at int) {
	t.Helper()
	got, err := lexer.Scan(text)
	if want := (api.Err{Why: why, At: at}); len(got) != 0 || err != want {
		t.Errorf("Scan(%.40q) = %d tokens, %v, want %v", text, len(got), err, want)
	}
}

// Promise 2.1: the examples of the chapter, and ordinary programs.

func TestExamplesOfTheChapter(t *testing.T) {
	checkTokens(t, "a>>>1", []api.Token{
		{Kind: api.TokenName, Text: "a", At: 0},
		{Kind: api.TokenSymbol, Text: ">>>", At: 1},
		{Kind: api.TokenNumber, Text: "1", At: 4},
	})
	checkError(t, "07", api.ErrSyntax, 0)
}

func TestProgram(t *testing.T) {
	text := "# Sums.\narray cells 16;\r\n\nfunc sum_2(n, By) var i, _t {\n\tcells[i] = -5 * ~n; # twice: i = 2\n" +
		"  while (i <= n) { i = i + By; }\r\n  if (!(n == 0) ? 1 : n >>> 63) { trap 7; }\n  return cells[0]%10;\n}"
	checkTokens(t, text, tokens(t, text,
		"array", "cells", "16", ";",
		"func", "sum_2", "(", "n", ",", "By", ")", "var", "i", ",", "_t", "{",
		"cells", "[", "i", "]", "=", "-", "5", "*", "~", "n", ";",
		"while", "(", "i", "<=", "n", ")", "{", "i", "=", "i", "+", "By", ";", "}",
		"if", "(", "!", "(", "n", "==", "0", ")", "?", "1", ":", "n", ">>>", "63", ")", "{", "trap", "7", ";", "}",
		"return", "cells", "[", "0", "]", "%", "10", ";", "}"))
}

func TestTextWithoutTokens(t *testing.T) {
	for _, text := range []string{"", " ", "\t", "\n", "\r", " \t\r\n \n", "#", "##", "# a", "# a\n", "#\n#", "\n#\n \r#\t\n"} {
		checkTokens(t, text, nil)
	}
}

// Promise 2.1: separators and comments.

func TestSpacesSeparateTokens(t *testing.T) {
	for _, space := range []string{" ", "\t", "\n", "\r", "\r\n", "  ", "\n\t "} {
		text := space + "a" + space + "b" + space + "1" + space + "2" + space + ">" + space + ">" + space
		checkTokens(t, text, tokens(t, text, "a", "b", "1", "2", ">", ">"))
	}
}

func TestOtherSpacesAreErrors(t *testing.T) {
	for _, space := range []string{"\v", "\f", "\x00", "\b", "\x85", "\xa0", "\u00a0", "\u2028"} {
		checkError(t, "a "+space+" b", api.ErrSyntax, 2)
	}
}

func TestCommentExtendsToLineFeed(t *testing.T) {
	for text, parts := range map[string][]string{
		"a # b":         {"a"},
		"a # b\nc":      {"a", "c"},
		"a# b # d\nc":   {"a", "c"},
		"1#2\n3":        {"1", "3"},
		">#=\n>":        {">", ">"},
		"#b\r\nc":       {"c"},
		"#b\rb\n\nc":    {"c"},
		"# b\n# b\nc#b": {"c"},
		"c\n#b\n":       {"c"},
	} {
		checkTokens(t, text, tokens(t, text, parts...))
	}
}

func TestCommentHoldsAnyByte(t *testing.T) {
	for c := range 256 {
		if c != '\n' {
			checkTokens(t, "#"+string([]byte{byte(c)})+"07 abcdefghijklmnopq", nil)
		}
	}
}

// Promise 2.1: names.

func TestNames(t *testing.T) {
	for _, name := range []string{
		"a", "z", "A", "Z", "_", "__", "a0", "_9", "a_b", "x1y2Z3_", "func", "array",
		"abcdefghijklmnop", "ABCDEFGHIJKLMNOP", "qrstuvwxyz", "QRSTUVWXYZ", "_123456789012345", "a0123456789",
	} {
		checkTokens(t, name, []api.Token{{Kind: api.TokenName, Text: name}})
		text := "(" + name + ")"
		checkTokens(t, text, tokens(t, text, "(", name, ")"))
	}
}

func TestLengthOfNames(t *testing.T) {
	longest := strings.Repeat("n", api.MaxName)
	checkTokens(t, longest, []api.Token{{Kind: api.TokenName, Text: longest}})
	text := "1 " + longest + "+" + longest
	checkTokens(t, text, tokens(t, text, "1", longest, "+", longest))
	for _, tail := range []string{"n", "0", "_", "Z", strings.Repeat("n", 1000)} {
		checkError(t, longest+tail, api.ErrLimit, 0)
		checkError(t, "a = "+longest+tail+";", api.ErrLimit, 4)
	}
}

// Promise 2.1: numbers.

func TestNumbers(t *testing.T) {
	for _, number := range []string{
		"0", "1", "9", "10", "123456789", "1000000", "100000000000000000", "9223372036854775799",
		"9223372036854775807", "9223372036854775808", "9199999999999999999", "1111111111111111111",
	} {
		checkTokens(t, number, []api.Token{{Kind: api.TokenNumber, Text: number}})
		text := "-" + number + ";"
		checkTokens(t, text, tokens(t, text, "-", number, ";"))
	}
}

func TestNumbersOutOfRange(t *testing.T) {
	for _, number := range []string{
		"9223372036854775809", "9223372036854775810", "9223372036854780000", "9999999999999999999", "10000000000000000000",
		"18446744073709551615", "18446744073709551616", "18446744073709551617", strings.Repeat("1", 1000), "1" + strings.Repeat("0", 64),
	} {
		checkError(t, number, api.ErrSyntax, 0)
		checkError(t, "a -"+number+" b", api.ErrSyntax, 3)
	}
}

func TestLeadingZeros(t *testing.T) {
	for _, number := range []string{"00", "01", "07", "000", "0123", "00000000000000000001", "09223372036854775808"} {
		checkError(t, number, api.ErrSyntax, 0)
		checkError(t, "["+number+"]", api.ErrSyntax, 1)
	}
}

func TestLettersBehindDigits(t *testing.T) {
	for _, number := range []string{
		"1a", "0a", "1_", "0_", "0x10", "1e5", "12Z", "1a2", "123456789012345678Z", "0b1", "1_000", "1abcdefghijklmnopqrstuvw",
	} {
		checkError(t, number, api.ErrSyntax, 0)
		checkError(t, "a+"+number, api.ErrSyntax, 2)
	}
}

// TestNumbersAgainstUnboundedIntegers compares with exact arithmetic for digit strings around each power of ten and around the limit.
func TestNumbersAgainstUnboundedIntegers(t *testing.T) {
	limit := new(big.Int).Lsh(big.NewInt(1), 63)
	centers := []*big.Int{limit, new(big.Int).Lsh(limit, 1)}
	for power := big.NewInt(1); len(centers) < 30; power = new(big.Int).Mul(power, big.NewInt(10)) {
		centers = append(centers, power)
	}
	for _, center := range centers {
		for offset := int64(-12); offset <= 12; offset++ {
			n := new(big.Int).Add(center, big.NewInt(offset))
			if n.Sign() < 0 {
				continue
			}
			if n.Cmp(limit) <= 0 {
				checkTokens(t, n.String(), []api.Token{{Kind: api.TokenNumber, Text: n.String()}})
			} else {
				checkError(t, n.String(), api.ErrSyntax, 0)
			}
		}
	}
}

// Promise 2.1: symbols.

// allSymbols lists the symbols of the chapter.
func allSymbols() []string {
	return append(strings.Split("+ - * / % & | ^ ~ ! < > = ? : ; , ( ) { } [ ]", " "), ">>>", "<<", ">>", "<=", ">=", "==", "!=")
}

func TestSymbols(t *testing.T) {
	for _, symbol := range allSymbols() {
		checkTokens(t, symbol, []api.Token{{Kind: api.TokenSymbol, Text: symbol}})
		text := "a" + symbol + "1" + symbol + " " + symbol
		checkTokens(t, text, tokens(t, text, "a", symbol, "1", symbol, symbol))
	}
}

func TestLongestSymbol(t *testing.T) {
	for text, parts := range map[string][]string{
		">>>":     {">>>"},
		">>>>":    {">>>", ">"},
		">>>>>":   {">>>", ">>"},
		">>>>>>":  {">>>", ">>>"},
		">>>=":    {">>>", "="},
		">>=":     {">>", "="},
		">>==":    {">>", "=="},
		">==":     {">=", "="},
		">=>":     {">=", ">"},
		"> >>":    {">", ">>"},
		">> >":    {">>", ">"},
		"<<<":     {"<<", "<"},
		"<<<<":    {"<<", "<<"},
		"<<=":     {"<<", "="},
		"<<<=":    {"<<", "<="},
		"<==":     {"<=", "="},
		"< =":     {"<", "="},
		"<>":      {"<", ">"},
		"===":     {"==", "="},
		"====":    {"==", "=="},
		"=!=":     {"=", "!="},
		"=>":      {"=", ">"},
		"=<":      {"=", "<"},
		"!==":     {"!=", "="},
		"!!=":     {"!", "!="},
		"! =":     {"!", "="},
		"&&":      {"&", "&"},
		"||":      {"|", "|"},
		"++":      {"+", "+"},
		"--":      {"-", "-"},
		"^=":      {"^", "="},
		"~=":      {"~", "="},
		"({[]})":  {"(", "{", "[", "]", "}", ")"},
		"a?-b:~c": {"a", "?", "-", "b", ":", "~", "c"},
	} {
		checkTokens(t, text, tokens(t, text, parts...))
	}
}

// Promise 2.1: bytes outside the language.

func TestOtherBytes(t *testing.T) {
	inside := strings.Join(allSymbols(), "") + " \t\n\r#_"
	for c := range 256 {
		text := string([]byte{byte(c)})
		if strings.Contains(inside, text) || kindOf(byte(c)) != api.TokenSymbol {
			continue
		}
		checkError(t, text, api.ErrSyntax, 0)
		checkError(t, "a"+text, api.ErrSyntax, 1)
		checkError(t, "a"+text+"b", api.ErrSyntax, 1)
		checkError(t, "12"+text+"3", api.ErrSyntax, 2)
		checkError(t, ">>"+text+">", api.ErrSyntax, 2)
		checkError(t, "# c\n"+text+text, api.ErrSyntax, 4)
		checkError(t, "a = 1; "+text, api.ErrSyntax, 7)
	}
}

func TestLettersOfOtherAlphabets(t *testing.T) {
	for _, letter := range []string{"ä", "é", "λ", "п", "世", "١", "²", "\u212a", "\U0001d400", "\ufeff", "\xff", "\xc3"} {
		checkError(t, letter, api.ErrSyntax, 0)
		checkError(t, "n"+letter, api.ErrSyntax, 1)
		checkError(t, "1"+letter, api.ErrSyntax, 1)
	}
}

// Promise 2.1: which of several errors is reported.

func TestLeftmostErrorIsReported(t *testing.T) {
	tooLong := strings.Repeat("n", api.MaxName+1)
	for _, c := range []struct {
		text string
		why  api.Errno
		at   int
	}{
		{"07 " + tooLong, api.ErrSyntax, 0},
		{tooLong + " 07", api.ErrLimit, 0},
		{"a $ 07", api.ErrSyntax, 2},
		{"a 07 $ " + tooLong, api.ErrSyntax, 2},
		{"a " + tooLong + "$", api.ErrLimit, 2},
		{"a$" + tooLong, api.ErrSyntax, 1},
		{"1a$", api.ErrSyntax, 0},
		{"# $ 07\n " + tooLong + " 1a", api.ErrLimit, 8},
		{"07\n" + strings.Repeat("a ", 1000), api.ErrSyntax, 0},
	} {
		checkError(t, c.text, c.why, c.at)
	}
}

// Promise 2.1: the length of the text.

func TestTextOfMaxTextBytes(t *testing.T) {
	text := strings.Repeat(" ", api.MaxText-1) + "a"
	checkTokens(t, text, []api.Token{{Kind: api.TokenName, Text: "a", At: api.MaxText - 1}})
	checkTokens(t, strings.Repeat("#", api.MaxText), nil)
	checkTokens(t, strings.Repeat("\n", api.MaxText), nil)
	checkError(t, strings.Repeat(" ", api.MaxText-1)+"$", api.ErrSyntax, api.MaxText-1)
	checkError(t, strings.Repeat("a", api.MaxText), api.ErrLimit, 0)
	checkError(t, strings.Repeat("1", api.MaxText), api.ErrSyntax, 0)
}

func TestTextOfMoreThanMaxTextBytes(t *testing.T) {
	for _, text := range []string{
		strings.Repeat(" ", api.MaxText+1),
		strings.Repeat(" ", api.MaxText) + "a",
		strings.Repeat("a ", api.MaxText),
		strings.Repeat("#", api.MaxText+1),
		"07" + strings.Repeat(" ", api.MaxText),
		strings.Repeat("$", api.MaxText+1),
		strings.Repeat("a", 10*api.MaxText),
	} {
		checkError(t, text, api.ErrLimit, api.MaxText)
	}
}

func TestManyTokens(t *testing.T) {
	got, err := lexer.Scan(strings.Repeat(";", api.MaxText))
	if err != (api.Err{}) || len(got) != api.MaxText {
		t.Fatalf("%d tokens, %v", len(got), err)
	}
	for i, token := range got {
		if token != (api.Token{Kind: api.TokenSymbol, Text: ";", At: i}) {
			t.Fatalf("token %d is %v", i, token)
		}
	}
}

// Promise 2.1, against a second scanner: regular expressions as the chapter words them.

var (
	skippedPart = regexp.MustCompile(`\A(?:[ \t\n\r]|#[^\n]*)+`)
	wordPart    = regexp.MustCompile(`\A[a-zA-Z0-9_]+`)
	decimalText = regexp.MustCompile(`\A(?:0|[1-9][0-9]*)\z`)
	symbolPart  = regexp.MustCompile(`\A(?:>>>|<<|>>|<=|>=|==|!=|[-+*/%&|^~!<>=?:;,(){}\[\]])`)
)

func isNumberText(s string) bool {
	n, _ := new(big.Int).SetString(s, 10)
	return decimalText.MatchString(s) && n.Cmp(new(big.Int).Lsh(big.NewInt(1), 63)) <= 0
}

func scanByExpressions(s string) ([]api.Token, api.Err) {
	var result []api.Token
	for at := 0; at < len(s); {
		rest := s[at:]
		skipped, word, symbol := skippedPart.FindString(rest), wordPart.FindString(rest), symbolPart.FindString(rest)
		kind := kindOf(rest[0])
		switch {
		case skipped != "":
		case kind == api.TokenName && len(word) > 16:
			return nil, api.Err{Why: api.ErrLimit, At: at}
		case kind == api.TokenNumber && !isNumberText(word), word+symbol == "":
			return nil, api.Err{Why: api.ErrSyntax, At: at}
		default:
			result = append(result, api.Token{Kind: kind, Text: word + symbol, At: at})
		}
		at += len(skipped + word + symbol)
	}
	return result, api.Err{}
}

func checkAgainstExpressions(t *testing.T, text string) {
	t.Helper()
	want, wantErr := scanByExpressions(text)
	got, err := lexer.Scan(text)
	if !slices.Equal(got, want) || err != wantErr {
		t.Fatalf("Scan(%q) = %v, %v, want %v, %v", text, got, err, want, wantErr)
	}
}

// TestAllShortTexts goes through all texts of up to five parts that interact with each other.
func TestAllShortTexts(t *testing.T) {
	parts := []string{"a", "_", "0", "7", ">", "<", "=", "!", "-", "#", "\n", " ", "$"}
	texts := []string{""}
	for range 5 {
		var longer []string
		for _, text := range texts {
			checkAgainstExpressions(t, text)
			for _, part := range parts {
				longer = append(longer, text+part)
			}
		}
		texts = longer
	}
	for _, text := range texts {
		checkAgainstExpressions(t, text)
	}
}

// TestMixedTexts joins parts in an order that a fixed sequence of numbers gives.
func TestMixedTexts(t *testing.T) {
	parts := append(allSymbols(), "a", "Zz_9", "_", "0", "10", "9223372036854775808", "abcdefghijklmnop", "while", " ", "\t", "\r", "\n", "\n", "# c", "#")
	rare := []string{"9223372036854775809", "abcdefghijklmnopq", "$", "\x80", "08", "4x", "."}
	state := uint32(1)
	next := func(n int) int {
		state = state*1664525 + 1013904223
		return int(state>>8) % n
	}
	accepted := 0
	for range 20000 {
		var text strings.Builder
		for range next(40) {
			if next(200) == 0 {
				text.WriteString(rare[next(len(rare))])
			} else {
				text.WriteString(parts[next(len(parts))])
			}
		}
		checkAgainstExpressions(t, text.String())
		if _, err := lexer.Scan(text.String()); err.Why == api.OK {
			accepted++
		}
	}
	if accepted < 4000 || accepted > 19000 {
		t.Errorf("the texts do not cover both cases: %d of 20000 are accepted", accepted)
	}
}

// R2 and R4: each result is new, and equal for equal arguments.

func TestResultsShareNoMemory(t *testing.T) {
	text := "a = b + 1;"
	first, _ := lexer.Scan(text)
	want := fmt.Sprint(first)
	second, _ := lexer.Scan(text)
	for i := range first {
		first[i] = api.Token{}
	}
	clear(first[:cap(first)])
	if got := fmt.Sprint(second); got != want {
		t.Errorf("changing a result changes another: %s, want %s", got, want)
	}
	third, _ := lexer.Scan(text)
	if got := fmt.Sprint(third); got != want {
		t.Errorf("changing a result changes a later one: %s, want %s", got, want)
	}
}
