package eval_test

import (
	"fmt"
	"math/big"
	"slices"
	"testing"

	"damask/api"
	"damask/check"
	"damask/eval"
	"damask/parse"
	"damask/print"
)

// The model of All: the chapter's words, told from a node down to its parts, on whole numbers without bounds. Bounds, inputs and places are those of chapter 3, written anew.

// parts are the operators that have parts, with how many.
var parts = map[int]int{
	api.OpNeg: 1, api.OpAbs: 1, api.OpSgn: 1,
	api.OpAdd: 2, api.OpSub: 2, api.OpMul: 2, api.OpDiv: 2, api.OpMod: 2, api.OpShl: 2, api.OpShr: 2, api.OpAnd: 2, api.OpOr: 2, api.OpXor: 2,
	api.OpLt: 2, api.OpLe: 2, api.OpGt: 2, api.OpGe: 2, api.OpEq: 2, api.OpNe: 2, api.OpMin: 2, api.OpMax: 2, api.OpClamp: 3, api.OpMed: 3, api.OpSel: 3,
}

// samples answers the least sample of a kind, the greatest, and the one at the border.
func samples(k api.Kind) (low, high, border int) {
	if k.Form == api.Image {
		return 0, 1<<k.Depth - 1, 1 << (k.Depth - 1)
	}
	return -1 << (k.Depth - 1), 1<<(k.Depth-1) - 1, 0
}

// ends answers the greatest X, Y and C of a form; the least are 0.
func ends(form int) (x, y, c int) {
	if form == api.Image {
		return 4095, 4095, 3
	}
	return 1048575, 0, 3
}

// places answers the places of a form, by their numbers.
func places(form int) []api.Place {
	var list []api.Place
	row := func(back, coords, y, from, to int) {
		for x := from; x <= to; x++ {
			list = append(list, api.Place{Back: back, Coords: coords, X: x, Y: y})
		}
	}
	if form == api.Sound {
		row(0, 1, 0, -16, -1)
		for back := 1; back <= 3; back++ {
			row(back, 1, 0, -4, 0)
		}
		return list
	}
	row(0, 2, -2, -3, 3)
	row(0, 2, -1, -3, 3)
	row(0, 2, 0, -3, -1)
	for back := 1; back <= 3; back++ {
		for y := -1; y <= 1; y++ {
			row(back, 2, y, -1, 1)
		}
	}
	return list
}

// mayBe tells whether a kind may be.
func mayBe(k api.Kind) bool {
	return (k.Form == 0 || k.Form == 1) && 1 <= k.Depth && k.Depth <= 16
}

// fits tells whether a window fits a kind that may be.
func fits(k api.Kind, w api.Window) bool {
	x, y, c := ends(k.Form)
	if w.X < 0 || w.X > x || w.Y < 0 || w.Y > y || w.C < 0 || w.C > c || len(w.P) != len(places(k.Form)) {
		return false
	}
	low, high, _ := samples(k)
	return low <= slices.Min(w.P) && slices.Max(w.P) <= high
}

// meant is a program on a window; what is known of its nodes is asked for once.
type meant struct {
	k     api.Kind
	t     api.Tree
	w     api.Window
	known map[int]*big.Int
}

// value answers what a node comes to; nil, if it comes to nothing.
func (m meant) value(i int) *big.Int {
	v, ok := m.known[i]
	if !ok {
		v = m.reckoned(m.t.Nodes[i])
		m.known[i] = v
	}
	return v
}

func (m meant) reckoned(n api.Node) *big.Int {
	low, high, border := samples(m.k)
	switch n.Op {
	case api.OpNum:
		return whole(n.K)
	case api.OpIn:
		return whole([]int{m.w.X, m.w.Y, m.w.C, low, high, border}[n.K])
	case api.OpPlace:
		return whole(m.w.P[slices.Index(places(m.k.Form), n.At)])
	case api.OpUse:
		return m.value(m.t.Binds[n.K])
	}
	var args []*big.Int
	for _, p := range []int{n.A, n.B, n.C}[:parts[n.Op]] {
		v := m.value(p)
		if v == nil {
			return nil
		}
		args = append(args, v)
	}
	return operated(n.Op, args)
}

func whole(x int) *big.Int { return big.NewInt(int64(x)) }

// operated answers what an operator makes of whole numbers; nil: nothing, or what hasn't 32 bits.
func operated(op int, args []*big.Int) *big.Int {
	var v *big.Int
	switch len(args) {
	case 1:
		a := args[0]
		v = map[int]*big.Int{api.OpNeg: new(big.Int).Neg(a), api.OpAbs: new(big.Int).Abs(a), api.OpSgn: whole(a.Sign())}[op]
	case 2:
		v = ofTwo(op, args[0], args[1])
	case 3:
		v = ofThree(op, args[0], args[1], args[2])
	}
	if v == nil || v.Cmp(whole(-1<<31)) < 0 || v.Cmp(whole(1<<31-1)) > 0 {
		return nil
	}
	return v
}

func ofTwo(op int, a, b *big.Int) *big.Int {
	v := new(big.Int)
	told := func(so bool) *big.Int {
		if so {
			return whole(1)
		}
		return whole(0)
	}
	switch op {
	case api.OpAdd:
		return v.Add(a, b)
	case api.OpSub:
		return v.Sub(a, b)
	case api.OpMul:
		return v.Mul(a, b)
	case api.OpDiv, api.OpMod:
		if b.Sign() == 0 {
			return nil
		}
		if op == api.OpDiv {
			return v.Quo(a, b)
		}
		return v.Rem(a, b)
	case api.OpShl, api.OpShr:
		if b.Sign() < 0 || b.Cmp(whole(31)) > 0 {
			return nil
		}
		if op == api.OpShl {
			return v.Lsh(a, uint(b.Int64()))
		}
		return v.Rsh(a, uint(b.Int64()))
	case api.OpAnd:
		return v.And(a, b)
	case api.OpOr:
		return v.Or(a, b)
	case api.OpXor:
		return v.Xor(a, b)
	case api.OpLt:
		return told(a.Cmp(b) < 0)
	case api.OpLe:
		return told(a.Cmp(b) <= 0)
	case api.OpGt:
		return told(a.Cmp(b) > 0)
	case api.OpGe:
		return told(a.Cmp(b) >= 0)
	case api.OpEq:
		return told(a.Cmp(b) == 0)
	case api.OpNe:
		return told(a.Cmp(b) != 0)
	case api.OpMin:
		return slices.MinFunc([]*big.Int{a, b}, (*big.Int).Cmp)
	case api.OpMax:
		return slices.MaxFunc([]*big.Int{a, b}, (*big.Int).Cmp)
	}
	return nil
}

func ofThree(op int, a, b, c *big.Int) *big.Int {
	switch op {
	case api.OpClamp:
		return ofTwo(api.OpMin, c, ofTwo(api.OpMax, a, b))
	case api.OpMed:
		list := []*big.Int{a, b, c}
		slices.SortFunc(list, (*big.Int).Cmp)
		return list[1]
	case api.OpSel:
		if a.Sign() != 0 {
			return b
		}
		return c
	}
	return nil
}

// model answers what All must.
func model(t *testing.T, k api.Kind, x api.Tree, w api.Window) ([]int, api.Errno) {
	t.Helper()
	if _, e := check.Check(k, x); e != api.OK {
		return nil, e
	}
	if !fits(k, w) {
		return nil, api.ErrInput
	}
	m := meant{k, x, w, map[int]*big.Int{}}
	var list []int
	for i := range x.Nodes {
		v := m.value(i)
		if v == nil {
			t.Fatalf("%s was taken for %v, but its node %d comes to nothing on %v", shown(x), k, i, w)
		}
		list = append(list, int(v.Int64()))
	}
	return list, api.OK
}

// Expressions, and the trees of them.

// expr is an expression with its parts in it.
type expr struct {
	op, k int
	at    api.Place
	parts []expr
}

func num(k int) expr                { return expr{op: api.OpNum, k: k} }
func in(k int) expr                 { return expr{op: api.OpIn, k: k} }
func use(k int) expr                { return expr{op: api.OpUse, k: k} }
func at(p api.Place) expr           { return expr{op: api.OpPlace, at: p} }
func of(op int, parts ...expr) expr { return expr{op: op, parts: parts} }

// literal answers an expression that comes to a number, which may be below 0.
func literal(x int) expr {
	switch {
	case x >= 0:
		return num(x)
	case x == -1<<31:
		return of(api.OpSub, of(api.OpNeg, num(1<<31-1)), num(1))
	}
	return of(api.OpNeg, num(-x))
}

// alone answers the tree of an expression.
func alone(e expr) api.Tree { return laid(nil, e) }

// laid answers the tree of expressions, all of them bound but the last: their nodes in the order in which they are finished.
func laid(is []expr, last expr) api.Tree {
	var t api.Tree
	for i, e := range is {
		t.Names = append(t.Names, fmt.Sprintf("n%d", i))
		t.Binds = append(t.Binds, lay(&t, e))
	}
	t.Root = lay(&t, last)
	return t
}

func lay(t *api.Tree, e expr) int {
	n := api.Node{Op: e.op, K: e.k, At: e.at}
	for i, to := range []*int{&n.A, &n.B, &n.C}[:len(e.parts)] {
		*to = lay(t, e.parts[i])
	}
	t.Nodes = append(t.Nodes, n)
	return len(t.Nodes) - 1
}

// treeOf answers the tree of a text that has one.
func treeOf(t *testing.T, text string) api.Tree {
	t.Helper()
	x, e := parse.Parse(text)
	if e != api.OK {
		t.Fatalf("Parse(%q): %d", text, e)
	}
	return x
}

// copied answers a tree that shares no memory with another.
func copied(x api.Tree) api.Tree {
	return api.Tree{Names: slices.Clone(x.Names), Binds: slices.Clone(x.Binds), Nodes: slices.Clone(x.Nodes), Root: x.Root}
}

// shown answers a tree as a text: its program's, if it has one, else some of its numbers, which may be any.
func shown(t api.Tree) string {
	if text, e := print.Print(t); e == api.OK {
		return fmt.Sprintf("%.200q", text)
	}
	nodes, names, binds := t.Nodes[:min(len(t.Nodes), 5)], t.Names[:min(len(t.Names), 5)], t.Binds[:min(len(t.Binds), 5)]
	return fmt.Sprintf("%d nodes %v %d names %.50q binds %v root %d", len(t.Nodes), nodes, len(t.Names), names, binds, t.Root)
}

// Windows.

// windowOf answers a window of a kind: of the lowest numbers, of the highest, of both in turn, else a mixture.
func windowOf(k api.Kind, seed uint) api.Window {
	next := draw(seed)
	turn := 0
	from := func(low, high int) int {
		turn++
		switch {
		case seed == 0, seed == 2 && turn%2 == 0:
			return low
		case seed <= 2:
			return high
		case next(3) == 0:
			return []int{low, high}[next(2)]
		}
		return low + next(high-low+1)
	}
	x, y, c := ends(k.Form)
	w := api.Window{X: from(0, x), Y: from(0, y), C: from(0, c)}
	low, high, _ := samples(k)
	for range places(k.Form) {
		w.P = append(w.P, from(low, high))
	}
	return w
}

// windows are how many windows a program is asked on, where it is asked on many.
const windows = 7

// draw answers numbers below n, by a walk that a seed sets.
func draw(seed uint) func(n int) int {
	return func(n int) int {
		seed += 0x9e3779b97f4a7c15
		z := (seed ^ seed>>30) * 0xbf58476d1ce4e5b9
		z = (z ^ z>>27) * 0x94d049bb133111eb
		return int(z>>33) % n
	}
}

// What is asked of All and Eval.

// roomy answers a tree whose lists have spare room, filled with marks, and a function that tells whether all of it still stands.
func roomy(x api.Tree) (api.Tree, func() bool) {
	names := append(slices.Clone(x.Names), "spare", "spare")
	binds := append(slices.Clone(x.Binds), -7, -7)
	nodes := append(slices.Clone(x.Nodes), api.Node{Op: -7}, api.Node{Op: -7})
	y := api.Tree{Names: names[:len(x.Names)], Binds: binds[:len(x.Binds)], Nodes: nodes[:len(x.Nodes)], Root: x.Root}
	return y, func() bool {
		return slices.Equal(names, append(slices.Clone(x.Names), "spare", "spare")) && slices.Equal(binds, append(slices.Clone(x.Binds), -7, -7)) && slices.Equal(nodes, append(slices.Clone(x.Nodes), api.Node{Op: -7}, api.Node{Op: -7}))
	}
}

// roomyWindow does the same for a window.
func roomyWindow(w api.Window) (api.Window, func() bool) {
	p := append(slices.Clone(w.P), -77777, -77777)
	v := api.Window{X: w.X, Y: w.Y, C: w.C, P: p[:len(w.P)]}
	return v, func() bool { return slices.Equal(p, append(slices.Clone(w.P), -77777, -77777)) }
}

// modelled holds All and Eval of any kind, tree and window against the model, and asks all that holds of what is answered.
func modelled(t *testing.T, k api.Kind, x api.Tree, w api.Window) ([]int, api.Errno) {
	t.Helper()
	y, treeStands := roomy(x)
	v, windowStands := roomyWindow(w)
	got, e := eval.All(k, y, v)
	want, f := model(t, k, x, w)
	if e != f || !slices.Equal(got, want) {
		t.Errorf("All(%v, %s, %v) = %v, %d, not %v, %d", k, shown(x), w, got, e, want, f)
		return got, e
	}
	root := 0
	if e == api.OK {
		root = got[x.Root]
		inSpans(t, k, x, got)
	}
	if n, f := eval.Eval(k, y, v); n != root || f != e {
		t.Errorf("Eval(%v, %s, %v) = %d, %d, but All tells %d, %d", k, shown(x), w, n, f, root, e)
	}
	if !treeStands() || !windowStands() {
		t.Errorf("All(%v, %s, %v) changed its tree to %s, or its window to %v", k, shown(x), w, shown(y), v)
	}
	return got, e
}

// inSpans asks of a program that was taken whether each node lies in its span.
func inSpans(t *testing.T, k api.Kind, x api.Tree, values []int) {
	t.Helper()
	r, e := check.Check(k, x)
	if e != api.OK || len(r.Spans) != len(values) {
		t.Errorf("%s for %v: %d values, but the check answers %d, with %d spans", shown(x), k, len(values), e, len(r.Spans))
		return
	}
	for i, v := range values {
		if v < r.Spans[i].Lo || v > r.Spans[i].Hi {
			t.Errorf("%s for %v: the node %d came to %d, outside of %v", shown(x), k, i, v, r.Spans[i])
		}
	}
}

// answers asks for a program's number, and all that modelled asks.
func answers(t *testing.T, k api.Kind, x api.Tree, w api.Window, want int) {
	t.Helper()
	got, e := modelled(t, k, x, w)
	if e != api.OK || len(got) != len(x.Nodes) || got[x.Root] != want {
		t.Errorf("All(%v, %s, %v) = %v, %d, its root isn't %d", k, shown(x), w, got, e, want)
	}
}

// tells asks for what all nodes come to, and all that modelled asks.
func tells(t *testing.T, k api.Kind, x api.Tree, w api.Window, want ...int) {
	t.Helper()
	if got, e := modelled(t, k, x, w); e != api.OK || !slices.Equal(got, want) {
		t.Errorf("All(%v, %s, %v) = %v, %d, not %v", k, shown(x), w, got, e, want)
	}
}

// refused asks for an error, and all that modelled asks.
func refused(t *testing.T, k api.Kind, x api.Tree, w api.Window, want api.Errno) {
	t.Helper()
	got, e := modelled(t, k, x, w)
	if e != want || len(got) != 0 {
		t.Errorf("All(%v, %s, %v) = %v, %d, not the error %d", k, shown(x), w, got, e, want)
	}
}
