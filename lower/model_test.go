package lower_test

import (
	"fmt"
	"slices"
	"testing"

	"damask/api"
	"damask/check"
	"damask/code"
	"damask/eval"
	"damask/lower"
	"damask/parse"
	"damask/print"
)

// The model of Lower: each node's register is told by itself, from the node down, by counting the nodes ahead of it that are no uses. Places are those of chapter 3, written anew.

// parts are the operators that have parts, with how many.
var parts = map[int]int{
	api.OpNeg: 1, api.OpAbs: 1, api.OpSgn: 1,
	api.OpAdd: 2, api.OpSub: 2, api.OpMul: 2, api.OpDiv: 2, api.OpMod: 2, api.OpShl: 2, api.OpShr: 2, api.OpAnd: 2, api.OpOr: 2, api.OpXor: 2,
	api.OpLt: 2, api.OpLe: 2, api.OpGt: 2, api.OpGe: 2, api.OpEq: 2, api.OpNe: 2, api.OpMin: 2, api.OpMax: 2, api.OpClamp: 3, api.OpMed: 3, api.OpSel: 3,
}

// samples answers the least sample of a kind, and the greatest.
func samples(k api.Kind) (low, high int) {
	if k.Form == api.Image {
		return 0, 1<<k.Depth - 1
	}
	return -1 << (k.Depth - 1), 1<<(k.Depth-1) - 1
}

// ends answers the greatest X, Y and C of a form; the least are 0.
func ends(form int) (x, y, c int) {
	if form == api.Image {
		return 4095, 4095, 3
	}
	return 1048575, 0, 3
}

// places answers the places of a form, by their numbers.
func places(form int) []api.Place {
	var list []api.Place
	row := func(back, coords, y, from, to int) {
		for x := from; x <= to; x++ {
			list = append(list, api.Place{Back: back, Coords: coords, X: x, Y: y})
		}
	}
	if form == api.Sound {
		row(0, 1, 0, -16, -1)
		for back := 1; back <= 3; back++ {
			row(back, 1, 0, -4, 0)
		}
		return list
	}
	row(0, 2, -2, -3, 3)
	row(0, 2, -1, -3, 3)
	row(0, 2, 0, -3, -1)
	for back := 1; back <= 3; back++ {
		for y := -1; y <= 1; y++ {
			row(back, 2, y, -1, 1)
		}
	}
	return list
}

// mayBe tells whether a kind may be.
func mayBe(k api.Kind) bool {
	return (k.Form == 0 || k.Form == 1) && 1 <= k.Depth && k.Depth <= 16
}

// register answers the register of a node of a sound tree.
func register(x api.Tree, node int) int {
	for x.Nodes[node].Op == api.OpUse {
		node = x.Binds[x.Nodes[node].K]
	}
	count := 0
	for _, n := range x.Nodes[:node] {
		if n.Op != api.OpUse {
			count++
		}
	}
	return count
}

// model answers what Lower must.
func model(k api.Kind, x api.Tree) (api.Code, api.Errno) {
	if _, e := check.Check(k, x); e != api.OK {
		return api.Code{}, e
	}
	c := api.Code{Kind: k, Out: register(x, x.Root)}
	for _, n := range x.Nodes {
		if n.Op == api.OpUse {
			continue
		}
		to := api.Inst{Op: n.Op, K: n.K}
		if n.Op == api.OpPlace {
			to.K = slices.Index(places(k.Form), n.At)
		}
		from := []int{n.A, n.B, n.C}
		for i, r := range []*int{&to.A, &to.B, &to.C}[:parts[n.Op]] {
			*r = register(x, from[i])
		}
		c.Insts = append(c.Insts, to)
	}
	return c, api.OK
}

// Expressions, and the trees of them.

// expr is an expression with its parts in it.
type expr struct {
	op, k int
	at    api.Place
	parts []expr
}

func num(k int) expr                { return expr{op: api.OpNum, k: k} }
func in(k int) expr                 { return expr{op: api.OpIn, k: k} }
func use(k int) expr                { return expr{op: api.OpUse, k: k} }
func at(p api.Place) expr           { return expr{op: api.OpPlace, at: p} }
func of(op int, parts ...expr) expr { return expr{op: op, parts: parts} }

// alone answers the tree of an expression.
func alone(e expr) api.Tree { return laid(nil, e) }

// laid answers the tree of expressions, all of them bound but the last: their nodes in the order in which they are finished.
func laid(is []expr, last expr) api.Tree {
	var t api.Tree
	for i, e := range is {
		t.Names = append(t.Names, fmt.Sprintf("n%d", i))
		t.Binds = append(t.Binds, lay(&t, e))
	}
	t.Root = lay(&t, last)
	return t
}

func lay(t *api.Tree, e expr) int {
	n := api.Node{Op: e.op, K: e.k, At: e.at}
	for i, to := range []*int{&n.A, &n.B, &n.C}[:len(e.parts)] {
		*to = lay(t, e.parts[i])
	}
	t.Nodes = append(t.Nodes, n)
	return len(t.Nodes) - 1
}

// treeOf answers the tree of a text that has one.
func treeOf(t *testing.T, text string) api.Tree {
	t.Helper()
	x, e := parse.Parse(text)
	if e != api.OK {
		t.Fatalf("Parse(%q): %d", text, e)
	}
	return x
}

// copied answers a tree that shares no memory with another.
func copied(x api.Tree) api.Tree {
	return api.Tree{Names: slices.Clone(x.Names), Binds: slices.Clone(x.Binds), Nodes: slices.Clone(x.Nodes), Root: x.Root}
}

// shown answers a tree as a text: its program's, if it has one, else some of its numbers, which may be any.
func shown(t api.Tree) string {
	if text, e := print.Print(t); e == api.OK {
		return fmt.Sprintf("%.200q", text)
	}
	nodes, names, binds := t.Nodes[:min(len(t.Nodes), 5)], t.Names[:min(len(t.Names), 5)], t.Binds[:min(len(t.Binds), 5)]
	return fmt.Sprintf("%d nodes %v %d names %.50q binds %v root %d", len(t.Nodes), nodes, len(t.Names), names, binds, t.Root)
}

// Windows.

// windowOf answers a window of a kind: of the lowest numbers, of the highest, of both in turn, else a mixture.
func windowOf(k api.Kind, seed uint) api.Window {
	next := draw(seed)
	turn := 0
	from := func(low, high int) int {
		turn++
		switch {
		case seed == 0, seed == 2 && turn%2 == 0:
			return low
		case seed <= 2:
			return high
		case next(3) == 0:
			return []int{low, high}[next(2)]
		}
		return low + next(high-low+1)
	}
	x, y, c := ends(k.Form)
	w := api.Window{X: from(0, x), Y: from(0, y), C: from(0, c)}
	low, high := samples(k)
	for range places(k.Form) {
		w.P = append(w.P, from(low, high))
	}
	return w
}

// windows are how many windows each program is run on.
const windows = 7

// draw answers numbers below n, by a walk that a seed sets.
func draw(seed uint) func(n int) int {
	return func(n int) int {
		seed += 0x9e3779b97f4a7c15
		z := (seed ^ seed>>30) * 0xbf58476d1ce4e5b9
		z = (z ^ z>>27) * 0x94d049bb133111eb
		return int(z>>33) % n
	}
}

// What is asked of Lower.

// roomy answers a tree whose lists have spare room, filled with marks, and a function that tells whether all of it still stands.
func roomy(x api.Tree) (api.Tree, func() bool) {
	names := append(slices.Clone(x.Names), "spare", "spare")
	binds := append(slices.Clone(x.Binds), -7, -7)
	nodes := append(slices.Clone(x.Nodes), api.Node{Op: -7}, api.Node{Op: -7})
	y := api.Tree{Names: names[:len(x.Names)], Binds: binds[:len(x.Binds)], Nodes: nodes[:len(x.Nodes)], Root: x.Root}
	return y, func() bool {
		return slices.Equal(names, append(slices.Clone(x.Names), "spare", "spare")) && slices.Equal(binds, append(slices.Clone(x.Binds), -7, -7)) && slices.Equal(nodes, append(slices.Clone(x.Nodes), api.Node{Op: -7}, api.Node{Op: -7}))
	}
}

// alike tells whether two codes are alike, field by field.
func alike(a, b api.Code) bool {
	return a.Kind == b.Kind && a.Out == b.Out && slices.Equal(a.Insts, b.Insts)
}

// modelled holds Lower of any kind and tree against the model, and asks all that holds of what is answered.
func modelled(t *testing.T, k api.Kind, x api.Tree) (api.Code, api.Errno) {
	t.Helper()
	y, stands := roomy(x)
	got, e := lower.Lower(k, y)
	want, f := model(k, x)
	if e != f || !alike(got, want) {
		t.Errorf("Lower(%v, %s) = %v, %d, not %v, %d", k, shown(x), got, e, want, f)
		return got, e
	}
	if !stands() {
		t.Errorf("Lower(%v, %s) changed its tree to %s", k, shown(x), shown(y))
	}
	if e == api.OK {
		holds(t, k, x, got)
	}
	return got, e
}

// holds asks 12.2 of the code of a program: it may be, costs what the check tells, and means on windows what the tree does.
func holds(t *testing.T, k api.Kind, x api.Tree, c api.Code) {
	t.Helper()
	if e := code.Check(c); e != api.OK {
		t.Errorf("the code of %s for %v may not be: %v, %d", shown(x), k, c, e)
		return
	}
	if r, e := check.Check(k, x); e != api.OK || code.Cost(c) != r.Cost {
		t.Errorf("the code of %s for %v costs %d, the check tells %d, %d", shown(x), k, code.Cost(c), r.Cost, e)
	}
	for seed := range uint(windows) {
		means(t, k, x, c, windowOf(k, seed))
	}
}

// means asks whether each node but the uses comes to in its register what it does in the tree, and the code to what the program does.
func means(t *testing.T, k api.Kind, x api.Tree, c api.Code, w api.Window) {
	t.Helper()
	nodes, e := eval.All(k, x, w)
	root, f := eval.Eval(k, x, w)
	values, g := code.Values(c, w)
	if e != api.OK || f != api.OK || g != api.OK {
		t.Errorf("%s for %v on %v: All answers %d, Eval %d, Values %d", shown(x), k, w, e, f, g)
		return
	}
	var list []int
	for i, n := range x.Nodes {
		if n.Op != api.OpUse {
			list = append(list, nodes[i])
		}
	}
	if !slices.Equal(values, list) || values[c.Out] != root {
		t.Errorf("%s for %v on %v: the registers come to %v, the nodes to %v; Out is %d, the root comes to %d", shown(x), k, w, values, list, c.Out, root)
	}
}

// becomes asks for a program's code, and all that modelled asks.
func becomes(t *testing.T, k api.Kind, x api.Tree, out int, insts ...api.Inst) {
	t.Helper()
	want := api.Code{Kind: k, Insts: insts, Out: out}
	if got, e := modelled(t, k, x); e != api.OK || !alike(got, want) {
		t.Errorf("Lower(%v, %s) = %v, %d, not %v", k, shown(x), got, e, want)
	}
}

// refused asks for an error with the zero code beside it, and all that modelled asks.
func refused(t *testing.T, k api.Kind, x api.Tree, want api.Errno) {
	t.Helper()
	got, e := modelled(t, k, x)
	if e != want || got.Kind != (api.Kind{}) || got.Out != 0 || len(got.Insts) != 0 {
		t.Errorf("Lower(%v, %s) = %v, %d, not the error %d and the zero code", k, shown(x), got, e, want)
	}
}
