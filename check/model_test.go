package check_test

import (
	"fmt"
	"slices"
	"strings"
	"testing"

	"damask/api"
	"damask/arith"
	"damask/check"
	"damask/kind"
	"damask/parse"
	"damask/print"
	"damask/span"
)

// The model of Check: the chapter's words, told from the root down where Check goes from the first node up.

// parts are the operators that have parts, with how many.
var parts = map[int]int{
	api.OpNeg: 1, api.OpAbs: 1, api.OpSgn: 1,
	api.OpAdd: 2, api.OpSub: 2, api.OpMul: 2, api.OpDiv: 2, api.OpMod: 2, api.OpShl: 2, api.OpShr: 2, api.OpAnd: 2, api.OpOr: 2, api.OpXor: 2,
	api.OpLt: 2, api.OpLe: 2, api.OpGt: 2, api.OpGe: 2, api.OpEq: 2, api.OpNe: 2, api.OpMin: 2, api.OpMax: 2, api.OpClamp: 3, api.OpMed: 3, api.OpSel: 3,
}

// costs are those of the operators that don't cost 1.
var costs = map[int]int{api.OpUse: 0, api.OpDiv: 4, api.OpMod: 6}

func cost(op int) int {
	if c, ok := costs[op]; ok {
		return c
	}
	return 1
}

// mayBe tells whether a kind may be.
func mayBe(k api.Kind) bool {
	return (k.Form == 0 || k.Form == 1) && 1 <= k.Depth && k.Depth <= 16
}

// within tells whether a place is one of the form's.
func within(form int, p api.Place) bool {
	from := func(x, low, high int) bool { return low <= x && x <= high }
	switch {
	case form == api.Image && p.Coords == 2 && p.Back == 0:
		return from(p.X, -3, 3) && from(p.Y, -2, -1) || from(p.X, -3, -1) && p.Y == 0
	case form == api.Image && p.Coords == 2:
		return from(p.Back, 1, 3) && from(p.X, -1, 1) && from(p.Y, -1, 1)
	case form == api.Sound && p.Coords == 1 && p.Back == 0:
		return from(p.X, -16, -1) && p.Y == 0
	case form == api.Sound && p.Coords == 1:
		return from(p.Back, 1, 3) && from(p.X, -4, 0) && p.Y == 0
	}
	return false
}

// samples answers the span of a kind's samples.
func samples(k api.Kind) api.Span {
	if k.Form == api.Image {
		return api.Span{Lo: 0, Hi: 1<<k.Depth - 1}
	}
	return api.Span{Lo: -1 << (k.Depth - 1), Hi: 1<<(k.Depth-1) - 1}
}

// inputs answers the spans of a kind's inputs.
func inputs(k api.Kind) [6]api.Span {
	s := samples(k)
	low, high := only(s.Lo), only(s.Hi)
	if k.Form == api.Image {
		return [6]api.Span{{Lo: 0, Hi: 4095}, {Lo: 0, Hi: 4095}, {Lo: 0, Hi: 3}, low, high, only(1 << (k.Depth - 1))}
	}
	return [6]api.Span{{Lo: 0, Hi: 1048575}, {Lo: 0, Hi: 0}, {Lo: 0, Hi: 3}, low, high, only(0)}
}

func only(x int) api.Span { return api.Span{Lo: x, Hi: x} }

// partsOf answers a node's parts.
func partsOf(n api.Node) []int { return []int{n.A, n.B, n.C}[:parts[n.Op]] }

// told is what the model knows of a sound tree's nodes; of each it is asked once.
type told struct {
	k      api.Kind
	t      api.Tree
	spans  map[int]api.Span
	faults map[int]api.Errno
	depths map[int]int
}

// fault answers the error of a node's span, and the span, if there is none; of a node whose part has a fault it isn't asked.
func (m told) fault(i int) (api.Span, api.Errno) {
	if s, ok := m.spans[i]; ok {
		return s, m.faults[i]
	}
	s, e := m.reckoned(m.t.Nodes[i])
	m.spans[i], m.faults[i] = s, e
	return s, e
}

func (m told) reckoned(n api.Node) (api.Span, api.Errno) {
	switch n.Op {
	case api.OpNum:
		return only(n.K), api.OK
	case api.OpIn:
		return inputs(m.k)[n.K], api.OK
	case api.OpPlace:
		return samples(m.k), api.OK
	case api.OpUse:
		return m.fault(m.t.Binds[n.K])
	}
	var args []api.Span
	for _, p := range partsOf(n) {
		s, e := m.fault(p)
		if e != api.OK {
			return api.Span{}, e
		}
		args = append(args, s)
	}
	return span.Of(n.Op, 0, 0, args...)
}

func (m told) depth(i int) int {
	if d, ok := m.depths[i]; ok {
		return d
	}
	n := m.t.Nodes[i]
	d := 1
	for _, p := range partsOf(n) {
		d = max(d, m.depth(p)+1)
	}
	if n.Op == api.OpUse {
		d = m.depth(m.t.Binds[n.K])
	}
	m.depths[i] = d
	return d
}

// model answers what Check must.
func model(k api.Kind, t api.Tree) (api.Report, api.Errno) {
	if !mayBe(k) {
		return api.Report{}, api.ErrInput
	}
	if parse.Check(t) != api.OK {
		return api.Report{}, api.ErrForm
	}
	for _, n := range t.Nodes {
		if n.Op == api.OpPlace && !within(k.Form, n.At) {
			return api.Report{}, api.ErrAhead
		}
	}
	m := told{k, t, map[int]api.Span{}, map[int]api.Errno{}, map[int]int{}}
	var r api.Report
	for i := range t.Nodes {
		s, e := m.fault(i)
		if e != api.OK {
			return api.Report{}, e
		}
		r.Spans = append(r.Spans, s)
		r.Cost += cost(t.Nodes[i].Op)
		r.Depth = max(r.Depth, m.depth(i))
	}
	if r.Cost > 200 || r.Depth > 24 {
		return api.Report{}, api.ErrCost
	}
	return r, api.OK
}

// Expressions, and the trees of them.

// expr is an expression with its parts in it.
type expr struct {
	op, k int
	at    api.Place
	parts []expr
}

func num(k int) expr                { return expr{op: api.OpNum, k: k} }
func in(k int) expr                 { return expr{op: api.OpIn, k: k} }
func use(k int) expr                { return expr{op: api.OpUse, k: k} }
func at(p api.Place) expr           { return expr{op: api.OpPlace, at: p} }
func of(op int, parts ...expr) expr { return expr{op: op, parts: parts} }

// alone answers the tree of an expression.
func alone(e expr) api.Tree { return laid(nil, e) }

// laid answers the tree of expressions, all of them bound but the last: their nodes in the order in which they are finished.
func laid(is []expr, last expr) api.Tree {
	var t api.Tree
	for i, e := range is {
		t.Names = append(t.Names, fmt.Sprintf("n%d", i))
		t.Binds = append(t.Binds, lay(&t, e))
	}
	t.Root = lay(&t, last)
	return t
}

func lay(t *api.Tree, e expr) int {
	n := api.Node{Op: e.op, K: e.k, At: e.at}
	for i, to := range []*int{&n.A, &n.B, &n.C}[:len(e.parts)] {
		*to = lay(t, e.parts[i])
	}
	t.Nodes = append(t.Nodes, n)
	return len(t.Nodes) - 1
}

// wrapped answers an expression with so many minuses ahead.
func wrapped(count int, e expr) expr {
	for range count {
		e = of(api.OpNeg, e)
	}
	return e
}

// summed answers the sum of so many ones, as flat as may be: it costs one less than twice as much.
func summed(count int) expr {
	if count == 1 {
		return num(1)
	}
	return of(api.OpAdd, summed(count-count/2), summed(count/2))
}

// treeOf answers the tree of a text that has one.
func treeOf(t *testing.T, text string) api.Tree {
	t.Helper()
	x, e := parse.Parse(text)
	if e != api.OK {
		t.Fatalf("Parse(%q): %d", text, e)
	}
	return x
}

// What is asked of Check.

// alike tells whether two trees are alike; a list without elements may be nil or not.
func alike(a, b api.Tree) bool {
	return slices.Equal(a.Names, b.Names) && slices.Equal(a.Binds, b.Binds) && slices.Equal(a.Nodes, b.Nodes) && a.Root == b.Root
}

// same tells whether two reports are alike.
func same(a, b api.Report) bool {
	return slices.Equal(a.Spans, b.Spans) && a.Cost == b.Cost && a.Depth == b.Depth
}

// copied answers a tree that shares no memory with another.
func copied(x api.Tree) api.Tree {
	return api.Tree{Names: slices.Clone(x.Names), Binds: slices.Clone(x.Binds), Nodes: slices.Clone(x.Nodes), Root: x.Root}
}

// shown answers a tree as a text: its program's, if it has one, else some of its numbers, which may be any.
func shown(t api.Tree) string {
	if text, e := print.Print(t); e == api.OK {
		return fmt.Sprintf("%.200q", text)
	}
	nodes, names, binds := t.Nodes[:min(len(t.Nodes), 5)], t.Names[:min(len(t.Names), 5)], t.Binds[:min(len(t.Binds), 5)]
	return fmt.Sprintf("%d nodes %v %d names %.50q binds %v root %d", len(t.Nodes), nodes, len(t.Names), names, binds, t.Root)
}

// roomy answers a tree whose lists have spare room, filled with marks, and a function that tells whether all of it still stands.
func roomy(x api.Tree) (api.Tree, func() bool) {
	names := append(slices.Clone(x.Names), "spare", "spare")
	binds := append(slices.Clone(x.Binds), -7, -7)
	nodes := append(slices.Clone(x.Nodes), api.Node{Op: -7}, api.Node{Op: -7})
	y := api.Tree{Names: names[:len(x.Names)], Binds: binds[:len(x.Binds)], Nodes: nodes[:len(x.Nodes)], Root: x.Root}
	return y, func() bool {
		return alike(x, y) && slices.Equal(names[len(x.Names):], []string{"spare", "spare"}) && slices.Equal(binds[len(x.Binds):], []int{-7, -7}) && slices.Equal(nodes[len(x.Nodes):], []api.Node{{Op: -7}, {Op: -7}})
	}
}

// modelled holds Check of any kind and tree against the model, and asks all that holds of what is taken.
func modelled(t *testing.T, k api.Kind, x api.Tree) (api.Report, api.Errno) {
	t.Helper()
	y, stands := roomy(x)
	got, e := check.Check(k, y)
	want, f := model(k, x)
	if e != f || !same(got, want) {
		t.Errorf("Check(%v, %s) = %v, %d, not %v, %d", k, shown(x), got, e, want, f)
		return got, e
	}
	if !stands() {
		t.Errorf("Check(%v, %s) changed its tree to %s", k, shown(x), shown(y))
	}
	if e == api.OK {
		harmless(t, k, x, got)
		lesser(t, k, x, got)
	}
	return got, e
}

// answers asks Check for an error, or for OK, and all that modelled asks.
func answers(t *testing.T, k api.Kind, x api.Tree, want api.Errno) api.Report {
	t.Helper()
	r, e := modelled(t, k, x)
	if e != want {
		t.Errorf("Check(%v, %s): %d, not %d", k, shown(x), e, want)
	}
	return r
}

// bounded tells whether a program has lo, hi or mid.
func bounded(x api.Tree) bool {
	return slices.ContainsFunc(x.Nodes, func(n api.Node) bool { return n.Op == api.OpIn && n.K >= api.InLo })
}

// lesser asks for 9.3 of a program that was taken.
func lesser(t *testing.T, k api.Kind, x api.Tree, wide api.Report) {
	t.Helper()
	if bounded(x) {
		return
	}
	for d := k.Depth - 1; d >= 1; d-- {
		r, e := check.Check(api.Kind{Form: k.Form, Depth: d}, x)
		if e != api.OK || r.Cost != wide.Cost || r.Depth != wide.Depth || len(r.Spans) != len(wide.Spans) {
			t.Errorf("%s is taken for %v, but for the depth %d it is %v, %d", shown(x), k, d, r, e)
			return
		}
		for i, s := range r.Spans {
			if s.Lo > s.Hi || s.Lo < wide.Spans[i].Lo || s.Hi > wide.Spans[i].Hi {
				t.Errorf("%s: the node %d is %v for the depth %d, but %v for %v", shown(x), i, s, d, wide.Spans[i], k)
			}
		}
		wide = r
	}
}

// harmless runs a program that was taken on some windows: no node has an error, each lies in its span, and the steps are at most the cost.
func harmless(t *testing.T, k api.Kind, x api.Tree, r api.Report) {
	t.Helper()
	steps := 0
	for _, n := range x.Nodes {
		if n.Op != api.OpUse {
			steps++
		}
	}
	if steps > r.Cost {
		t.Errorf("%s takes %d steps and costs %d", shown(x), steps, r.Cost)
	}
	for seed := range 6 {
		values := run(t, k, x, windowOf(k, uint(seed)))
		for i, v := range values {
			if v < r.Spans[i].Lo || v > r.Spans[i].Hi {
				t.Errorf("%s for %v: the node %d came to %d, outside of %v", shown(x), k, i, v, r.Spans[i])
			}
		}
	}
}

// windowOf answers a window of a kind: of the lowest numbers, of the highest, else a mixture.
func windowOf(k api.Kind, seed uint) api.Window {
	next := draw(seed)
	from := func(s api.Span) int {
		switch {
		case seed == 0:
			return s.Lo
		case seed == 1:
			return s.Hi
		case next(3) == 0:
			return []int{s.Lo, s.Hi}[next(2)]
		}
		return s.Lo + next(s.Hi-s.Lo+1)
	}
	all := inputs(k)
	w := api.Window{X: from(all[api.InX]), Y: from(all[api.InY]), C: from(all[api.InC])}
	for range kind.Count(k) {
		w.P = append(w.P, from(samples(k)))
	}
	return w
}

// run answers what the nodes of a sound tree come to, up to the first that has an error.
func run(t *testing.T, k api.Kind, x api.Tree, w api.Window) []int {
	t.Helper()
	all := inputs(k)
	ins := []int{w.X, w.Y, w.C, all[api.InLo].Lo, all[api.InHi].Lo, all[api.InMid].Lo}
	var values []int
	for i, n := range x.Nodes {
		v, e := 0, api.OK
		switch n.Op {
		case api.OpNum:
			v = n.K
		case api.OpIn:
			v = ins[n.K]
		case api.OpPlace:
			number, ok := kind.Number(k, n.At)
			if !ok {
				t.Fatalf("%s looks at %v, which isn't in the window of %v", shown(x), n.At, k)
			}
			v = w.P[number]
		case api.OpUse:
			v = values[x.Binds[n.K]]
		default:
			var args []int
			for _, p := range partsOf(n) {
				args = append(args, values[p])
			}
			v, e = arith.Value(n.Op, 0, 0, args...)
		}
		if e != api.OK {
			t.Errorf("%s was taken for %v, but its node %d has the error %d", shown(x), k, i, e)
			return values
		}
		values = append(values, v)
	}
	return values
}

// draw answers numbers below n, by a walk that a seed sets.
func draw(seed uint) func(n int) int {
	return func(n int) int {
		seed = seed*6364136223846793005 + 1442695040888963407
		return int(seed>>33) % n
	}
}

// spansIn reads spans as they are written in the tests: 3 is 3 alone, 0:255 is 0 to 255.
func spansIn(t *testing.T, text string) []api.Span {
	t.Helper()
	var list []api.Span
	for _, word := range strings.Fields(text) {
		low, high, two := strings.Cut(word, ":")
		if !two {
			high = low
		}
		var s api.Span
		if _, e := fmt.Sscan(low+" "+high, &s.Lo, &s.Hi); e != nil {
			t.Fatalf("%q: %v", word, e)
		}
		list = append(list, s)
	}
	return list
}
