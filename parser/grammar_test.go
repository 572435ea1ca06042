package parser_test

import (
	"math/big"
	"slices"
	"strings"
	"testing"

	"fulling/api"
)

// grammar is the grammar of the chapter. NAME is a name that is not reserved, NUM a number of at most 1,000,000, WORD a number that is a word, NUMBER every number.
const grammar = `
<program> :
<program> : <program> array NAME NUM ;
<program> : <program> func NAME ( <params> ) <locals> { <stmts> return <expr> ; }
<params>  :
<params>  : <names>
<locals>  :
<locals>  : var <names>
<names>   : NAME
<names>   : <names> , NAME
<stmts>   :
<stmts>   : <stmts> <stmt>
<stmt>    : NAME = <expr> ;
<stmt>    : NAME = NAME ( <args> ) ;
<stmt>    : NAME [ <expr> ] = <expr> ;
<stmt>    : if ( <expr> ) { <stmts> }
<stmt>    : if ( <expr> ) { <stmts> } else { <stmts> }
<stmt>    : while ( <expr> ) { <stmts> }
<stmt>    : out <expr> ;
<stmt>    : trap NUM ;
<args>    :
<args>    : <exprs>
<exprs>   : <expr>
<exprs>   : <exprs> , <expr>
<expr>    : <or>
<expr>    : <or> ? <expr> : <expr>
<or>      : <xor>
<or>      : <or> | <xor>
<xor>     : <and>
<xor>     : <xor> ^ <and>
<and>     : <equal>
<and>     : <and> & <equal>
<equal>   : <less>
<equal>   : <equal> == <less>
<equal>   : <equal> != <less>
<less>    : <shift>
<less>    : <less> < <shift>
<less>    : <less> <= <shift>
<less>    : <less> > <shift>
<less>    : <less> >= <shift>
<shift>   : <sum>
<shift>   : <shift> << <sum>
<shift>   : <shift> >> <sum>
<shift>   : <shift> >>> <sum>
<sum>     : <product>
<sum>     : <sum> + <product>
<sum>     : <sum> - <product>
<product> : <prefix>
<product> : <product> * <prefix>
<product> : <product> / <prefix>
<product> : <product> % <prefix>
<prefix>  : <operand>
<prefix>  : - <prefix>
<prefix>  : - NUMBER
<prefix>  : ~ <prefix>
<prefix>  : ! <prefix>
<operand> : WORD
<operand> : NAME
<operand> : NAME [ <expr> ]
<operand> : ( <expr> )
`

// recognizer tells by Earley's method which sequences of tokens are programs, and which are the start of one. It decides nothing ahead: it follows all derivations of the grammar at once.
type recognizer struct {
	rules    [][]string      // the left side, and the symbols of the right side
	nullable map[string]bool // the left sides that derive the empty sequence
	sets     [][]item        // one for each number of tokens
}

// item is the state of a rule: dot symbols of its right side have been recognized since the tokens from origin on.
type item struct{ rule, dot, origin int }

func newRecognizer() *recognizer {
	r := &recognizer{nullable: map[string]bool{}}
	for line := range strings.Lines(grammar) {
		if fields := strings.Fields(line); len(fields) > 0 {
			r.rules = append(r.rules, append([]string{fields[0]}, fields[2:]...))
			if len(fields) == 2 {
				r.nullable[fields[0]] = true // in this grammar, all of them have an empty rule
			}
		}
	}
	r.sets = [][]item{r.closed(r.predicted("<program>", 0))}
	return r
}

// predicted returns the items for a nonterminal that may start after origin tokens.
func (r *recognizer) predicted(left string, origin int) []item {
	var result []item
	for i, rule := range r.rules {
		if rule[0] == left {
			result = append(result, item{i, 0, origin})
		}
	}
	return result
}

// next returns the symbol behind the dot, or "" at the end of the rule.
func (r *recognizer) next(i item) string {
	if symbols := r.rules[i.rule][1:]; i.dot < len(symbols) {
		return symbols[i.dot]
	}
	return ""
}

// closed returns the set that kernel leads to without a further token.
func (r *recognizer) closed(kernel []item) []item {
	set, known, at := []item(nil), map[item]bool{}, len(r.sets)
	add := func(i item) {
		if !known[i] {
			known[i] = true
			set = append(set, i)
		}
	}
	for _, i := range kernel {
		add(i)
	}
	for k := 0; k < len(set); k++ {
		i := set[k]
		symbol := r.next(i)
		switch {
		case symbol == "" && i.origin < at: // nullable takes care of empty derivations, which begin and end here
			for _, waiting := range r.sets[i.origin] {
				if r.next(waiting) == r.rules[i.rule][0] {
					add(item{waiting.rule, waiting.dot + 1, waiting.origin})
				}
			}
		case len(symbol) > 2 && symbol[0] == '<':
			for _, predicted := range r.predicted(symbol, at) {
				add(predicted)
			}
			if r.nullable[symbol] {
				add(item{i.rule, i.dot + 1, i.origin})
			}
		}
	}
	return set
}

// push adds a token. It returns false and changes nothing if no program starts with the tokens so far and this one.
func (r *recognizer) push(token string) bool {
	classes := classesOf(token)
	var kernel []item
	for _, i := range r.sets[len(r.sets)-1] {
		if slices.Contains(classes, r.next(i)) {
			kernel = append(kernel, item{i.rule, i.dot + 1, i.origin})
		}
	}
	if len(kernel) == 0 {
		return false
	}
	r.sets = append(r.sets, r.closed(kernel))
	return true
}

// cut drops all but the first n tokens.
func (r *recognizer) cut(n int) { r.sets = r.sets[:n+1] }

// pushAll adds tokens up to the first that cannot follow, and returns how many it added.
func (r *recognizer) pushAll(tokens []string) int {
	for i, token := range tokens {
		if !r.push(token) {
			return i
		}
	}
	return len(tokens)
}

// isProgram reports whether the tokens so far are a program. A program without tokens is one, too.
func (r *recognizer) isProgram() bool {
	return slices.ContainsFunc(r.sets[len(r.sets)-1], func(i item) bool {
		return i.origin == 0 && r.rules[i.rule][0] == "<program>" && r.next(i) == ""
	})
}

// classesOf returns the terminal symbols of the grammar that a token is an instance of.
func classesOf(token string) []string {
	switch {
	case slices.Contains(reservedWords(), token):
		return []string{token}
	case isWordByte(token[0]) && (token[0] < '0' || token[0] > '9'):
		return []string{"NAME"}
	case !isWordByte(token[0]):
		return []string{token}
	}
	n, _ := new(big.Int).SetString(token, 10)
	classes := []string{"NUMBER"}
	if n.IsInt64() {
		classes = append(classes, "WORD")
	}
	if n.Cmp(big.NewInt(1000000)) <= 0 {
		classes = append(classes, "NUM")
	}
	return classes
}

func isWordByte(c byte) bool {
	return c == '_' || '0' <= c && c <= '9' || 'a' <= c && c <= 'z' || 'A' <= c && c <= 'Z'
}

// spaced joins tokens with spaces and returns the offset of each.
func spaced(tokens []string) (string, []int) {
	var offsets []int
	at := 0
	for _, token := range tokens {
		offsets = append(offsets, at)
		at += len(token) + 1
	}
	return strings.Join(tokens, " "), offsets
}

// compare checks that the parser reports for tokens what the recognizer says. r holds the first n of them already, and again on return.
func (r *recognizer) compare(t *testing.T, tokens []string, n int) {
	t.Helper()
	text, offsets := spaced(tokens)
	accepted := n + r.pushAll(tokens[n:])
	isProgram := r.isProgram()
	r.cut(n)
	switch {
	case accepted < len(tokens):
		checkError(t, text, api.ErrSyntax, offsets[accepted])
	case isProgram:
		checkAccepted(t, text)
	default:
		checkError(t, text, api.ErrSyntax, len(text))
	}
}
