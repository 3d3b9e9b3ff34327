package parse_test

import (
	"fmt"
	"math"
	"slices"
	"strings"
	"testing"

	"damask/api"
	"damask/parse"
)

// grown are trees of every operator, and of names that are bound and used.
func grown(t *testing.T) []api.Tree {
	t.Helper()
	var list []api.Tree
	for _, text := range programs {
		list = append(list, treeOf(t, text))
	}
	for _, s := range shapes() {
		text, _ := s.filled("(7-x)", num(0))
		list = append(list, treeOf(t, text))
	}
	return list
}

// 7.3: trees of texts, and each of them with one thing changed

func TestTreesOfTextsAreSound(t *testing.T) {
	for _, x := range grown(t) {
		if e := parse.Check(x); e != api.OK {
			t.Errorf("Check(%s) = %d", told(x), e)
		}
		checked(t, x)
	}
}

// edges are numbers about those that a field may be.
func edges(x api.Tree) []int {
	list := []int{math.MinInt, math.MinInt + 1, -1 << 32, -1<<31 - 1, -1 << 31, -1<<31 + 1, -2, -1, 0, 1, 2, 3, 5, 6, 7, 1023, 1024, 1025, 1<<31 - 2, 1<<31 - 1, 1 << 31, 1 << 32, math.MaxInt - 1, math.MaxInt}
	return append(list, len(x.Nodes)-2, len(x.Nodes)-1, len(x.Nodes), len(x.Names)-1, len(x.Names))
}

func TestOneFieldChanged(t *testing.T) {
	for _, x := range grown(t) {
		for i := range x.Nodes {
			y := copied(x)
			n := &y.Nodes[i]
			for _, field := range []*int{&n.Op, &n.A, &n.B, &n.C, &n.K, &n.At.Back, &n.At.Coords, &n.At.X, &n.At.Y} {
				was := *field
				for _, to := range append(edges(x), was-1, was+1, i-1, i, i+1) {
					*field = to
					checked(t, y)
				}
				for to := -1; to <= api.OpMulS+2; to++ {
					*field = to
					checked(t, y)
				}
				*field = was
			}
		}
	}
}

// A field that isn't named for an operator must be zero; one that is may be other, within its bounds.
func TestFieldsThatShouldBeZero(t *testing.T) {
	for _, x := range grown(t) {
		for i, n := range x.Nodes {
			spoilt := map[string]func(*api.Node){}
			if trees[n.Op] < 1 {
				spoilt["A"] = func(n *api.Node) { n.A = 1 }
			}
			if trees[n.Op] < 2 {
				spoilt["B"] = func(n *api.Node) { n.B = 1 }
			}
			if trees[n.Op] < 3 {
				spoilt["C"] = func(n *api.Node) { n.C = 1 }
			}
			if n.Op != api.OpNum && n.Op != api.OpIn && n.Op != api.OpUse {
				spoilt["K"] = func(n *api.Node) { n.K = 1 }
			}
			if n.Op != api.OpPlace {
				spoilt["Back"] = func(n *api.Node) { n.At.Back = 1 }
				spoilt["Coords"] = func(n *api.Node) { n.At.Coords = 1 }
				spoilt["X"] = func(n *api.Node) { n.At.X = 1 }
				spoilt["Y"] = func(n *api.Node) { n.At.Y = -1 }
			}
			for name, spoil := range spoilt {
				y := copied(x)
				spoil(&y.Nodes[i])
				unsound(t, name, y)
			}
		}
	}
}

func TestNumbersAtTheirBounds(t *testing.T) {
	const most = 1<<31 - 1
	may := []expr{
		num(0), num(1), num(most), in(0), in(5), place(0, 0), place(0, most), place(0, -most), place(most, 0), place2(0, most, most), place2(0, -most, -most), place2(most, 1, 0), place2(1, 0, -1),
	}
	for _, e := range may {
		if err := parse.Check(alone(e)); err != api.OK {
			t.Errorf("Check of %+v: %d", e, err)
		}
		checked(t, alone(e))
	}
	mayNot := []expr{
		num(-1), num(most + 1), num(math.MinInt), num(math.MaxInt), in(-1), in(6), in(math.MaxInt), use(0), use(-1), use(1), place(0, most+1), place(0, -most-1), place(-1, 0), place(most+1, 0),
		place2(0, most+1, 0), place2(0, -most-1, 0), place2(0, 0, most+1), place2(0, 0, -most-1), place2(-1, 0, 0), place2(most+1, 0, 0), place2(0, math.MinInt, 0), place2(0, 0, math.MinInt), place(math.MinInt, 0),
		{op: api.OpPlace}, {op: api.OpPlace, at: api.Place{X: 1}}, {op: api.OpPlace, at: api.Place{Coords: 3}}, {op: api.OpPlace, at: api.Place{Coords: -1}}, {op: api.OpPlace, at: api.Place{Coords: 1, Y: 1}}, {op: api.OpPlace, at: api.Place{Coords: 1, Y: -1}},
		{op: api.OpPlace, at: api.Place{Coords: math.MaxInt}}, {op: api.OpPlace, at: api.Place{Coords: 1}, k: 1}, {op: api.OpPlace, at: api.Place{Coords: 2}, k: -1},
	}
	for _, e := range mayNot {
		unsound(t, fmt.Sprintf("%+v", e), alone(e))
		unsound(t, fmt.Sprintf("the minus of %+v", e), alone(of(api.OpNeg, e)))
	}
}

func TestOperatorsOfTrees(t *testing.T) {
	for _, op := range []int{math.MinInt, -1, 0, api.OpShlK, api.OpShrK, api.OpAndK, api.OpMulK, api.OpMulS, api.OpMulS + 1, 1 << 32, math.MaxInt} {
		for count := range 4 {
			parts := []expr{num(1), num(2), num(3)}[:count]
			unsound(t, fmt.Sprint("operator ", op), alone(of(op, parts...)))
		}
	}
	for op, parts := range trees {
		if op == api.OpUse || op == api.OpPlace {
			continue
		}
		for count := range 4 {
			x := alone(of(op, []expr{num(0), num(1), num(2)}[:count]...))
			if count == parts {
				if e := parse.Check(x); e != api.OK {
					t.Errorf("Check of operator %d: %d", op, e)
				}
				continue
			}
			unsound(t, fmt.Sprintf("operator %d of %d", op, count), x)
		}
	}
}

func TestRootAndBindsChanged(t *testing.T) {
	for _, x := range grown(t) {
		for _, to := range edges(x) {
			y := copied(x)
			y.Root = to
			checked(t, y)
			if to != x.Root {
				unsound(t, "another root", y)
			}
			for i := range x.Binds {
				y := copied(x)
				y.Binds[i] = to
				checked(t, y)
				if to != x.Binds[i] {
					unsound(t, "another bind", y)
				}
			}
			y = copied(x)
			y.Binds = append(y.Binds, to)
			unsound(t, "a bind without a name", y)
			y.Names = append(y.Names, "new_one")
			checked(t, y)
			y.Binds = slices.Insert(slices.Clone(x.Binds), 0, to)
			checked(t, y)
		}
		for i := range x.Binds {
			y := copied(x)
			y.Binds = slices.Delete(y.Binds, i, i+1)
			unsound(t, "a name without a bind", y)
			y.Names = slices.Delete(y.Names, i, i+1)
			unsound(t, "an expression that nothing ends", y)
			y = copied(x)
			y.Binds[i], y.Binds[0] = y.Binds[0], y.Binds[i]
			if i > 0 {
				unsound(t, "binds in another order", y)
			}
			y = copied(x)
			y.Binds[i] = x.Root
			unsound(t, "a bind that is the root", y)
		}
	}
}

func TestNodesLessMoreAndInAnotherOrder(t *testing.T) {
	for _, x := range grown(t) {
		y := copied(x)
		y.Nodes = y.Nodes[:len(y.Nodes)-1]
		unsound(t, "the last node left out", y)
		y.Root--
		checked(t, y)
		for _, more := range []api.Node{{Op: api.OpNum}, {Op: api.OpIn, K: 5}, {Op: api.OpNeg, A: x.Root}, {Op: api.OpNeg}, {Op: api.OpAdd, A: x.Root, B: x.Root}, {}} {
			y := copied(x)
			y.Nodes = append(y.Nodes, more)
			unsound(t, "a node more behind the root", y)
			y.Root++
			checked(t, y)
			if trees[more.Op] == 0 {
				unsound(t, "a root that hasn't all nodes", y)
			}
		}
		for i := range x.Nodes {
			y := copied(x)
			y.Nodes = slices.Delete(y.Nodes, i, i+1)
			checked(t, y)
			y.Root--
			checked(t, y)
			y = copied(x)
			y.Nodes = slices.Insert(y.Nodes, i, api.Node{Op: api.OpNum, K: 3})
			y.Root++
			checked(t, y)
			for j := range x.Nodes {
				y := copied(x)
				y.Nodes[i], y.Nodes[j] = y.Nodes[j], y.Nodes[i]
				checked(t, y)
				y = copied(x)
				y.Nodes[i] = y.Nodes[j]
				checked(t, y)
			}
		}
	}
}

func TestTheOrderOfNodes(t *testing.T) {
	one, two := api.Node{Op: api.OpNum, K: 1}, api.Node{Op: api.OpNum, K: 2}
	neg := func(a int) api.Node { return api.Node{Op: api.OpNeg, A: a} }
	add := func(a, b int) api.Node { return api.Node{Op: api.OpAdd, A: a, B: b} }
	sel := func(a, b, c int) api.Node { return api.Node{Op: api.OpSel, A: a, B: b, C: c} }
	nodes := func(list ...api.Node) api.Tree { return api.Tree{Nodes: list, Root: len(list) - 1} }
	for why, x := range map[string]api.Tree{
		"parts the other way round":        nodes(one, two, add(1, 0)),
		"a part twice":                     nodes(one, add(0, 0)),
		"a part twice, one never":          nodes(one, two, add(1, 1)),
		"a part of two nodes":              nodes(one, neg(0), add(0, 1)),
		"a node that is no part":           nodes(one, two, neg(1)),
		"a node that is no part, first":    nodes(two, one, two, add(1, 2)),
		"its own part":                     nodes(neg(0)),
		"its own part, behind another":     nodes(one, add(0, 1)),
		"a part that comes later":          nodes(neg(1), one),
		"a part that isn't there":          nodes(one, neg(2)),
		"a part below 0":                   nodes(one, neg(-1)),
		"a part left over":                 nodes(one, neg(0), two, neg(0)),
		"a part's part":                    nodes(one, neg(0), neg(0)),
		"a deeper part":                    nodes(one, neg(0), two, add(0, 2)),
		"both parts ahead of their parts":  nodes(one, two, neg(0), neg(1), add(2, 3)),
		"parts of a choice in another row": nodes(one, two, one, sel(0, 2, 1)),
		"parts of a choice turned":         nodes(one, two, one, sel(2, 1, 0)),
		"too few parts":                    nodes(one, two, sel(0, 1, 1)),
		"no parts at all":                  nodes(add(0, 0)),
		"two roots":                        nodes(one, two),
	} {
		unsound(t, why, x)
	}
	for _, x := range []api.Tree{
		nodes(one), nodes(one, neg(0)), nodes(one, two, add(0, 1)), nodes(one, neg(0), two, neg(2), add(1, 3)), nodes(one, two, one, sel(0, 1, 2)), nodes(one, two, neg(1), add(0, 2)),
	} {
		if e := parse.Check(x); e != api.OK {
			t.Errorf("Check(%s) = %d", told(x), e)
		}
	}
}

// A name may be used behind its let, not in it and not ahead of it.
func TestUses(t *testing.T) {
	names := []string{"a", "b", "d"}
	tree := func(k0, k1, k2, k3 int) api.Tree {
		return laid(names, []expr{of(api.OpNeg, use(k0)), use(k1), of(api.OpAdd, num(1), use(k2))}, of(api.OpMul, use(k3), num(2)))
	}
	for k := -2; k < 6; k++ {
		unsound(t, "a use ahead of all names", tree(k, 0, 0, 0))
	}
	bind := laid(names, []expr{num(1), use(0), of(api.OpAdd, num(1), use(1))}, of(api.OpMul, use(2), num(2)))
	if e := parse.Check(bind); e != api.OK {
		t.Fatalf("Check(%s) = %d", told(bind), e)
	}
	for i, n := range bind.Nodes {
		if n.Op != api.OpUse {
			continue
		}
		ahead := 0
		for ahead < len(bind.Binds) && bind.Binds[ahead] < i {
			ahead++
		}
		for k := -2; k < 6; k++ {
			y := copied(bind)
			y.Nodes[i].K = k
			if k >= 0 && k < ahead {
				if e := parse.Check(y); e != api.OK {
					t.Errorf("Check(%s) = %d", told(y), e)
				}
				continue
			}
			unsound(t, fmt.Sprintf("use %d of name %d", i, k), y)
		}
	}
	unsound(t, "a use without names", alone(use(0)))
	unsound(t, "a use of itself", laid([]string{"a"}, []expr{use(0)}, num(1)))
	unsound(t, "a use in a part of itself", laid([]string{"a"}, []expr{of(api.OpAbs, use(0))}, num(1)))
}

func TestNamesOfTrees(t *testing.T) {
	x := laid([]string{"a", "b"}, []expr{num(1), use(0)}, use(1))
	for _, name := range slices.Concat(reservedWords, []string{
		"", " ", "A", "_", "_a", "1", "1a", "a b", "a ", " a", "a-b", "+", "é", "a\x00", "\xff", "a\n", "#", "let a", "aB", "abcdefghijklmnopq", strings.Repeat("z", 1<<16),
	}) {
		for i := range x.Names {
			y := copied(x)
			y.Names[i] = name
			unsound(t, fmt.Sprintf("the name %.20q", name), y)
		}
	}
	for _, name := range []string{"d", "e1", "e_", "abcdefghijklmnop", "z123456789012345", "lets", "pp", "xy"} {
		for i := range x.Names {
			y := copied(x)
			y.Names[i] = name
			if e := parse.Check(y); e != api.OK {
				t.Errorf("Check with the name %q: %d", name, e)
			}
		}
	}
	many := laid([]string{"a", "b", "d", "e", "f"}, []expr{num(1), num(2), num(3), num(4), num(5)}, num(6))
	for i := range many.Names {
		for j := range many.Names {
			y := copied(many)
			y.Names[i] = y.Names[j]
			checked(t, y)
			if i != j {
				unsound(t, "a name twice", y)
			}
		}
	}
	y := copied(x)
	y.Names = nil
	unsound(t, "no names", y)
	y = copied(x)
	y.Names = append(y.Names, "d")
	unsound(t, "a name too many", y)
	y = copied(x)
	y.Names = y.Names[:1]
	unsound(t, "a name too few", y)
	y = alone(num(1))
	y.Names = []string{"a"}
	unsound(t, "a name alone", y)
	y = alone(num(1))
	y.Binds = []int{0}
	unsound(t, "a bind alone", y)
	y.Names = []string{"a"}
	unsound(t, "a bind that is all there is", y)
}

func TestHowManyNodes(t *testing.T) {
	unsound(t, "nothing", api.Tree{})
	for _, root := range []int{-1, 0, 1} {
		unsound(t, "no nodes", api.Tree{Root: root})
		unsound(t, "no nodes, in a list", api.Tree{Root: root, Nodes: []api.Node{}, Names: []string{}, Binds: []int{}})
		unsound(t, "no nodes, but a name", api.Tree{Root: root, Names: []string{"a"}, Binds: []int{0}})
		unsound(t, "no nodes, but a bind", api.Tree{Root: root, Names: []string{"a"}, Binds: []int{-1}})
	}
	empty := alone(num(1))
	empty.Names, empty.Binds = []string{}, []int{}
	checked(t, empty)
	for _, count := range []int{1, 2, 1023, 1024, 1025, 1026, 2048, 1 << 16} {
		x := api.Tree{Nodes: []api.Node{{Op: api.OpNum}}, Root: count - 1}
		for len(x.Nodes) < count {
			x.Nodes = append(x.Nodes, api.Node{Op: api.OpNeg, A: len(x.Nodes) - 1})
		}
		want := api.OK
		if count > 1024 {
			want = api.ErrForm
		}
		if e := parse.Check(x); e != want {
			t.Errorf("Check of %d minuses: %d", count, e)
		}
		flat := api.Tree{Root: count - 1}
		for i := range count {
			flat.Nodes = append(flat.Nodes, api.Node{Op: api.OpNum, K: i})
			if i < count-1 {
				flat.Names, flat.Binds = append(flat.Names, fmt.Sprintf("n%d", i)), append(flat.Binds, i)
			}
		}
		if e := parse.Check(flat); e != want {
			t.Errorf("Check of %d lets: %d", count-1, e)
		}
	}
}

// Lists of great length beside few nodes are refused, names that are great too.
func TestGreatLists(t *testing.T) {
	x := alone(num(1))
	x.Names = slices.Repeat([]string{"a"}, 1<<20)
	unsound(t, "names alone", x)
	x.Binds = make([]int, 1<<20)
	unsound(t, "names and binds", api.Tree{Names: x.Names[:3], Binds: x.Binds[:3], Nodes: x.Nodes})
	if e := parse.Check(x); e != api.ErrForm {
		t.Errorf("Check of names and binds: %d", e)
	}
	for i := range x.Binds {
		x.Names[i], x.Binds[i] = fmt.Sprintf("n%d", i), i
	}
	if e := parse.Check(x); e != api.ErrForm {
		t.Errorf("Check of names and binds without nodes: %d", e)
	}
	long := laid([]string{strings.Repeat("a", 1<<24)}, []expr{num(1)}, num(2))
	unsound(t, "a long name", long)
}

// All small trees of some operators.
func TestSmallTrees(t *testing.T) {
	var kinds []api.Node
	for _, op := range []int{api.OpNum, api.OpUse, api.OpNeg, api.OpAdd} {
		for a := range 3 {
			for b := range 2 {
				for k := range 2 {
					kinds = append(kinds, api.Node{Op: op, A: a, B: b, K: k})
				}
			}
		}
	}
	taken := 0
	lets := [][]int{nil, {0}, {1}, {2}, {0, 1}, {1, 0}, {0, 0}, {0, 2}}
	names := []string{"a", "b"}
	for _, binds := range lets {
		for _, first := range kinds {
			for _, second := range kinds {
				for _, third := range kinds {
					x := api.Tree{Names: names[:len(binds)], Binds: binds, Nodes: []api.Node{first, second, third}, Root: 2}
					e := parse.Check(x)
					if (e == api.OK) != sound(x) || e != api.OK && e != api.ErrForm {
						t.Fatalf("Check(%s) = %d", told(x), e)
					}
					if e == api.OK {
						taken++
						again(t, x)
					}
				}
			}
		}
	}
	// Without a name 6, with one 6 of either length, with two 2 times 3 times 4.
	if taken != 42 {
		t.Errorf("%d trees are sound", taken)
	}
}

// again asks that a sound tree is the tree of a text.
func again(t *testing.T, x api.Tree) {
	t.Helper()
	never := func() bool { return false }
	text := ""
	for i, n := range x.Binds {
		text += "let " + x.Names[i] + "=" + written(expressed(x, n), x.Names, never) + ";"
	}
	text += written(expressed(x, x.Root), x.Names, never)
	if len(text) <= api.MaxText {
		holds(t, text, x)
	}
}

// expressed answers a node of a sound tree with its parts in it.
func expressed(x api.Tree, n int) expr {
	node := x.Nodes[n]
	e := expr{op: node.Op, k: node.K, at: node.At}
	for _, p := range []int{node.A, node.B, node.C}[:trees[node.Op]] {
		e.parts = append(e.parts, expressed(x, p))
	}
	return e
}

func TestSoundTreesAreTreesOfTexts(t *testing.T) {
	for _, x := range grown(t) {
		again(t, x)
	}
	for seed := range uint(2000) {
		next := draw(seed + 1<<20)
		x := laid([]string{"r", "s"}, []expr{sketch(next, 2, 0), sketch(next, 2, 1)}, sketch(next, 3, 2))
		if e := parse.Check(x); e != api.OK {
			t.Errorf("Check(%s) = %d", told(x), e)
		}
		again(t, x)
		// A few fields at a time, by chance.
		for range 1 + next(2) {
			n := &x.Nodes[next(len(x.Nodes))]
			fields := []*int{&n.Op, &n.A, &n.B, &n.C, &n.K, &n.At.Back, &n.At.Coords, &n.At.X, &n.At.Y}
			*fields[next(len(fields))] += 1 - 2*next(2)
		}
		checked(t, x)
		if parse.Check(x) == api.OK {
			again(t, x)
		}
	}
}

// P1, rules 4 and 5: spare room stays as it is.
func TestCheckLeavesSpareRoom(t *testing.T) {
	x := laid(nil, nil, of(api.OpAdd, num(1), num(2)))
	room := append(slices.Clone(x.Nodes), api.Node{Op: 99, A: 98, K: 97})
	binds := []int{0, 77}
	names := []string{"a", "spare"}
	for _, y := range []api.Tree{{Nodes: room[:3], Root: 2, Binds: binds[:0], Names: names[:0]}, {Nodes: room[:2], Root: 1, Binds: binds[:1], Names: names[:1]}} {
		if e := parse.Check(y); e != api.OK {
			t.Errorf("Check(%s) = %d", told(y), e)
		}
	}
	if !slices.Equal(room[:3], x.Nodes) || room[3] != (api.Node{Op: 99, A: 98, K: 97}) || !slices.Equal(binds, []int{0, 77}) || !slices.Equal(names, []string{"a", "spare"}) {
		t.Error("Check wrote into what was handed in")
	}
}
