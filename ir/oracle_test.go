package ir_test

import (
	"fmt"
	"regexp"
	"slices"
	"strings"
	"testing"

	"fulling/api"
	"fulling/ir"
	"fulling/testtrees"
)

// These tests compare the package with an oracle on units that are made up and then changed in a few places.
//
// The oracle follows the sentences of the chapter one by one, from a node down to its operands, for one loop at a time. What the operations need, it takes from the table of forms.

// oracle knows a list of nodes. It keeps what it has found out, so that it ends soon.
type oracle struct {
	nodes []api.Node
	sorts map[int]int
	uses  map[[2]int]bool
	loops map[[2]int]bool
}

func newOracle(l []api.Node) *oracle {
	return &oracle{l, map[int]int{}, map[[2]int]bool{}, map[[2]int]bool{}}
}

func (o *oracle) sort(i int) int {
	if i < 0 || i >= len(o.nodes) {
		return malformed
	}
	if known, ok := o.sorts[i]; ok {
		return known
	}
	o.sorts[i] = o.findSort(i)
	return o.sorts[i]
}

func (o *oracle) findSort(i int) int {
	n := o.nodes[i]
	operands := ""
	for _, kid := range n.Kids {
		if kid >= i {
			return malformed
		}
		operands += []string{"?", "v", "s", "l"}[o.sort(kid)]
	}
	f, ok := formOf(n.Op, operands)
	if n.Op == api.OpLoopResult && ok {
		f.high = int64((len(o.nodes[n.Kids[0]].Kids)-1)/2 - 1)
	}
	if !ok || n.Imm < f.low || n.Imm > f.high {
		return malformed
	}
	return f.result(n.Imm)
}

// isUsed returns whether node i is node j or uses it.
func (o *oracle) isUsed(i, j int) bool {
	key := [2]int{i, j}
	if known, ok := o.uses[key]; ok {
		return known
	}
	o.uses[key] = i == j || slices.ContainsFunc(o.nodes[i].Kids, func(kid int) bool { return o.isUsed(kid, j) })
	return o.uses[key]
}

func (o *oracle) dependencies(i int) []int {
	var result []int
	if o.sort(i) != malformed {
		for j := range i + 1 {
			if o.isUsed(i, j) {
				result = append(result, j)
			}
		}
	}
	return result
}

// dependsOn returns whether node i depends on loop n.
func (o *oracle) dependsOn(i, n int) bool {
	key := [2]int{i, n}
	if known, ok := o.loops[key]; ok {
		return known
	}
	this := o.nodes[i]
	kids := this.Kids
	if this.Op == api.OpLoop && this.Imm == int64(n) {
		kids = kids[:(len(kids)-1)/2]
	}
	o.loops[key] = this.Op == api.OpLoopVar && this.Imm/16 == int64(n) || slices.ContainsFunc(kids, func(kid int) bool { return o.dependsOn(kid, n) })
	return o.loops[key]
}

func (o *oracle) dependsOnAny(i int) bool {
	for n := range 16 {
		if o.dependsOn(i, n) {
			return true
		}
	}
	return false
}

var oracleName = regexp.MustCompile(`^[A-Za-z_][A-Za-z0-9_]{0,15}$`)

func areOracleNames(names []string) bool {
	seen := map[string]bool{}
	for _, name := range names {
		if seen[name] || !oracleName.MatchString(name) || slices.Contains(strings.Fields("array func var return if else while out trap"), name) {
			return false
		}
		seen[name] = true
	}
	return true
}

func isValidForOracle(u api.Unit) bool {
	var arrays, functions []string
	for _, a := range u.Arrays {
		arrays = append(arrays, a.Name)
		if a.Len < 1 || a.Len > 16 {
			return false
		}
	}
	for _, f := range u.Funcs {
		functions = append(functions, f.Name)
	}
	if len(arrays) > 4 || len(functions) > 8 || !areOracleNames(arrays) || !areOracleNames(functions) {
		return false
	}
	return !slices.ContainsFunc(u.Funcs, func(f api.Graph) bool { return !isValidGraphForOracle(u, f) })
}

func isValidGraphForOracle(u api.Unit, f api.Graph) bool {
	o := newOracle(f.Nodes)
	if f.Params < 0 || f.Params > 6 || len(f.Nodes) > 2000 || o.sort(f.Value) != value || o.sort(f.State) != state {
		return false
	}
	for i, n := range f.Nodes {
		if o.sort(i) == malformed || slices.ContainsFunc(f.Nodes[:i], func(other api.Node) bool { return identical(n, other) }) || !o.fits(u, f, i) {
			return false
		}
	}
	return !o.dependsOnAny(f.Value) && !o.dependsOnAny(f.State)
}

// fits checks what one node refers to.
func (o *oracle) fits(u api.Unit, f api.Graph, i int) bool {
	n := f.Nodes[i]
	switch n.Op {
	case api.OpParam:
		return n.Imm < int64(f.Params)
	case api.OpLoad, api.OpStore:
		return n.Imm < int64(len(u.Arrays))
	case api.OpCall:
		return n.Imm < int64(len(u.Funcs)) && len(n.Kids) == 1+u.Funcs[n.Imm].Params
	}
	for j, other := range f.Nodes {
		if j == i || other.Op != api.OpLoop {
			continue
		}
		if n.Op == api.OpLoop && n.Imm == other.Imm || n.Op == api.OpLoopVar && n.Imm/16 == other.Imm && n.Imm%16 >= int64(len(other.Kids)/2) {
			return false
		}
	}
	return true
}

// inventor makes up units, and changes them. Its choices follow a fixed sequence of numbers.
type inventor struct{ testtrees.Numbers }

// unit returns the next unit. It is valid, but for results that may depend on loops.
func (v *inventor) unit() api.Unit {
	u := api.Unit{Arrays: manyArrays(v.Below(api.MaxArrays + 1)), Funcs: manyFunctions(1 + v.Below(3))}
	for i := range u.Funcs {
		u.Funcs[i].Params = v.Below(4)
	}
	for i := range u.Funcs {
		v.fill(u, &u.Funcs[i], 4+v.Below(20))
	}
	return u
}

// source is what the nodes of a graph are made up of.
type source struct {
	graph
	byLetter map[byte][]int
	lengths  []int // of the loops
	missing  []int // the loops that do not exist yet
}

func (v *inventor) fill(u api.Unit, f *api.Graph, size int) {
	s := source{byLetter: map[byte][]int{}, lengths: []int{1 + v.Below(3), 1 + v.Below(3), 16}, missing: []int{0, 1, 2}}
	for _, n := range []api.Node{node(api.OpEntry, 0), node(api.OpConst, 1), node(api.OpLoopVar, 0), node(api.OpLoopVar, 16)} {
		s.take(n)
	}
	for range 5 * size {
		if len(s.nodes) >= size {
			break
		}
		if n, ok := v.node(u, *f, &s); ok {
			s.take(n)
		}
	}
	f.Nodes = s.nodes
	f.Value, f.State = v.result(s, 'v'), v.result(s, 's')
}

// take puts a node. A loop that exists must not be made up again.
func (s *source) take(n api.Node) {
	before := len(s.nodes)
	i := s.put(n.Op, n.Imm, n.Kids...)
	if i < before {
		return
	}
	letter := "?vsl"[newOracle(s.nodes).sort(i)]
	s.byLetter[letter] = append(s.byLetter[letter], i)
	if n.Op == api.OpLoop {
		s.missing = slices.DeleteFunc(s.missing, func(number int) bool { return int64(number) == n.Imm })
	}
}

// outside returns the nodes of a sort that depend on no loop, except for the given ones.
func (s *source) outside(letter byte, except ...int) []int {
	o := newOracle(s.nodes)
	var result []int
	for _, i := range s.byLetter[letter] {
		isInside := false
		for n := range 16 {
			isInside = isInside || !slices.Contains(except, n) && o.dependsOn(i, n)
		}
		if !isInside {
			result = append(result, i)
		}
	}
	return result
}

// later returns an element of a list, mostly one of the last.
func (v *inventor) later(list []int) int {
	return list[max(v.Below(len(list)), v.Below(len(list)))]
}

// result mostly returns a node that depends on no loop.
func (v *inventor) result(s source, letter byte) int {
	if v.Below(20) == 0 {
		return v.later(s.byLetter[letter])
	}
	return v.later(s.outside(letter))
}

// node makes up a node, if there are operands for it.
func (v *inventor) node(u api.Unit, f api.Graph, s *source) (api.Node, bool) {
	switch op := 1 + v.Below(api.OpLoop+20); {
	case op == api.OpCall:
		return v.call(u, s), true
	case op < api.OpLoop:
		return v.simpleNode(u, f, s, op)
	case len(s.missing) > 0:
		return v.loop(s, testtrees.OneOf(&v.Numbers, s.missing...)), true
	}
	return v.simpleNode(u, f, s, testtrees.OneOf(&v.Numbers, api.OpLoopResult, api.OpGuard, api.OpOutput))
}

func (v *inventor) call(u api.Unit, s *source) api.Node {
	callee := v.Below(len(u.Funcs))
	n := node(api.OpCall, int64(callee), v.later(s.byLetter['s']))
	for range u.Funcs[callee].Params {
		n.Kids = append(n.Kids, v.later(s.byLetter['v']))
	}
	return n
}

// loop makes up a loop. It depends on no loop, or on one around it.
func (v *inventor) loop(s *source, number int) api.Node {
	n := node(api.OpLoop, int64(number))
	around := testtrees.OneOf(&v.Numbers, -1, -1, 0, 1, 2)
	values := strings.Repeat("v", s.lengths[number]-1)
	for _, letter := range []byte("s" + values) {
		n.Kids = append(n.Kids, v.later(s.outside(letter, around)))
	}
	for _, letter := range []byte("vs" + values) {
		n.Kids = append(n.Kids, v.later(s.outside(letter, around, number)))
	}
	return n
}

// simpleNode makes up a node of an operation with a fixed number of operands.
func (v *inventor) simpleNode(u api.Unit, f api.Graph, s *source, op int) (api.Node, bool) {
	form := testtrees.OneOf(&v.Numbers, formsByOp[op]...)
	n := node(op, max(form.low, 0))
	for _, letter := range []byte(form.operands) {
		if len(s.byLetter[letter]) == 0 {
			return n, false
		}
		n.Kids = append(n.Kids, v.later(s.byLetter[letter]))
	}
	choices := 1 + int(min(form.high-n.Imm, 3))
	switch op {
	case api.OpParam:
		choices = f.Params
	case api.OpLoad, api.OpStore:
		choices = len(u.Arrays)
	case api.OpLoopVar:
		number := v.Below(len(s.lengths))
		n.Imm, choices = int64(16*number), min(3, s.lengths[number])
	case api.OpLoopResult:
		choices = len(s.nodes[n.Kids[0]].Kids) / 2
	}
	if choices == 0 {
		return n, false
	}
	n.Imm += int64(v.Below(choices))
	return n, true
}

// change changes a unit in one place. Not every change makes it invalid.
func (v *inventor) change(u *api.Unit) string {
	f := &u.Funcs[v.Below(len(u.Funcs))]
	i := v.Below(len(f.Nodes))
	n := &f.Nodes[i]
	switch kind := v.Below(13); kind {
	case 0:
		n.Op += testtrees.OneOf(&v.Numbers, -1, 1, -2, 2)
		return "Op"
	case 1:
		n.Imm += testtrees.OneOf[int64](&v.Numbers, -1, 1, 16, -16, 2, 3, 1<<32)
		return "Imm"
	case 2, 3, 4:
		if len(n.Kids) > 0 {
			n.Kids[v.Below(len(n.Kids))] = v.Below(i+2) - 1
		}
		return "Kids"
	case 5:
		if len(n.Kids) > 0 {
			n.Kids = n.Kids[1:]
		}
		return "one operand less"
	case 6:
		n.Kids = append(n.Kids, v.Below(i+1))
		return "one operand more"
	case 7:
		f.Nodes = append(f.Nodes, node(n.Op, n.Imm, n.Kids...))
		return "identical"
	case 8:
		f.Nodes = append(f.Nodes, node(api.OpLoop, int64(v.Below(4)), 0, 1, 0))
		return "loop"
	case 9:
		f.Nodes = append(f.Nodes, node(api.OpLoopVar, int64(v.Below(20))))
		return "loop variable"
	case 10:
		f.Params += testtrees.OneOf(&v.Numbers, -1, 1)
		return "Params"
	case 11:
		f.Value, f.State = v.Below(len(f.Nodes)+2)-1, v.Below(len(f.Nodes)+2)-1
		return "results"
	}
	u.Arrays = u.Arrays[:v.Below(len(u.Arrays)+1)]
	return "arrays"
}

// checkNodes compares Sort and Dependencies of each node.
func checkNodes(t *testing.T, what string, l []api.Node) {
	t.Helper()
	o := newOracle(l)
	for i := -1; i <= len(l); i++ {
		checkSort(t, fmt.Sprintf("%s, node %d of %v", what, i, l), l, i, o.sort(i))
		checkDependencies(t, fmt.Sprintf("%s, node %d of %v", what, i, l), l, i, o.dependencies(i)...)
	}
}

func TestOracle(t *testing.T) {
	seen := map[string][2]int{}
	v := inventor{7}
	for number := range 3000 {
		u := v.unit()
		what := "unchanged"
		for step := range 3 {
			want := isValidForOracle(u)
			counts := seen[what]
			if want {
				counts[1]++
			} else {
				counts[0]++
			}
			seen[what] = counts
			checkValid(t, fmt.Sprintf("unit %d, step %d (%s): %v", number, step, what, u), u, want)
			checkNodes(t, fmt.Sprintf("unit %d, step %d (%s)", number, step, what), u.Funcs[0].Nodes)
			if !want && what != "unchanged" {
				break
			}
			what = v.change(&u)
		}
	}
	for what, counts := range seen {
		alwaysInvalid := what == "identical" || what == "one operand more"
		if counts[0] < 20 || counts[1] < 5 && !alwaysInvalid {
			t.Errorf("wrong test: after %s, %d units were valid and %d were not", what, counts[1], counts[0])
		}
	}
}

// TestOracleWithEverything makes each small change at each node of a graph with all operations.
func TestOracleWithEverything(t *testing.T) {
	original := everything()
	for i, n := range original.Funcs[0].Nodes {
		for _, op := range []int{n.Op - 1, n.Op + 1, 0} {
			checkChange(t, original, i, func(n *api.Node) { n.Op = op })
		}
		for _, imm := range []int64{n.Imm - 1, n.Imm + 1, n.Imm + 16, n.Imm + 1<<32, -1} {
			checkChange(t, original, i, func(n *api.Node) { n.Imm = imm })
		}
		for place := range n.Kids {
			for kid := -1; kid <= len(original.Funcs[0].Nodes); kid++ {
				checkChange(t, original, i, func(n *api.Node) { n.Kids[place] = kid })
			}
			checkChange(t, original, i, func(n *api.Node) { n.Kids = slices.Delete(n.Kids, place, place+1) })
			checkChange(t, original, i, func(n *api.Node) { n.Kids = slices.Insert(n.Kids, place, n.Kids[place]) })
		}
	}
}

func checkChange(t *testing.T, original api.Unit, i int, change func(n *api.Node)) {
	t.Helper()
	u := cloneUnit(original)
	n := &u.Funcs[0].Nodes[i]
	change(n)
	o := newOracle(u.Funcs[0].Nodes)
	what := fmt.Sprintf("node %d changed from %s to %s", i, nodeText(original.Funcs[0].Nodes[i]), nodeText(*n))
	checkSort(t, what, u.Funcs[0].Nodes, i, o.sort(i))
	checkValid(t, what, u, isValidForOracle(u))
	last := len(u.Funcs[0].Nodes) - 1
	if got, want := ir.Dependencies(u.Funcs[0].Nodes, last), o.dependencies(last); !slices.Equal(got, want) {
		t.Errorf("%s: Dependencies of the last node = %v, want %v", what, got, want)
	}
}
