package print_test

import (
	"fmt"
	"slices"
	"strings"
	"testing"

	"damask/api"
	"damask/lex"
	"damask/parse"
	"damask/print"
)

// The model of Print: the chapter's grammar, turned round. A rule writes the operators of its own by the rules of their parts, and hands all else on to the next rule; the last one takes what is left in brackets.

// written is a rule of operators of two: what its first part is, what its second is and all that it hands on, and its marks.
type written struct {
	first, next string
	marks       map[int]string
}

var levels = map[string]written{
	"or":      {"or", "xor", map[int]string{api.OpOr: "|"}},
	"xor":     {"xor", "and", map[int]string{api.OpXor: "^"}},
	"and":     {"and", "compare", map[int]string{api.OpAnd: "&"}},
	"compare": {"shift", "shift", map[int]string{api.OpLt: "<", api.OpLe: "<=", api.OpGt: ">", api.OpGe: ">=", api.OpEq: "==", api.OpNe: "!="}},
	"shift":   {"shift", "sum", map[int]string{api.OpShl: "<<", api.OpShr: ">>"}},
	"sum":     {"sum", "product", map[int]string{api.OpAdd: "+", api.OpSub: "-"}},
	"product": {"product", "minus", map[int]string{api.OpMul: "*", api.OpDiv: "/", api.OpMod: "%"}},
}

var calls = map[int]string{api.OpAbs: "abs", api.OpSgn: "sgn", api.OpMin: "min", api.OpMax: "max", api.OpClamp: "clamp", api.OpMed: "med"}

var inputs = strings.Fields("x y c lo hi mid")

// trees are the operators that have parts, with how many.
var trees = map[int]int{
	api.OpNeg: 1, api.OpAbs: 1, api.OpSgn: 1,
	api.OpAdd: 2, api.OpSub: 2, api.OpMul: 2, api.OpDiv: 2, api.OpMod: 2, api.OpShl: 2, api.OpShr: 2, api.OpAnd: 2, api.OpOr: 2, api.OpXor: 2,
	api.OpLt: 2, api.OpLe: 2, api.OpGt: 2, api.OpGe: 2, api.OpEq: 2, api.OpNe: 2, api.OpMin: 2, api.OpMax: 2, api.OpClamp: 3, api.OpMed: 3, api.OpSel: 3,
}

// model answers the text of a sound tree.
func model(t api.Tree) string {
	text := ""
	for i, name := range t.Names {
		text += "let " + name + "=" + by("choice", t, t.Binds[i]) + ";"
	}
	return text + by("choice", t, t.Root)
}

// by answers the text of a node as a rule writes it.
func by(rule string, t api.Tree, i int) string {
	n := t.Nodes[i]
	switch rule {
	case "choice":
		if n.Op == api.OpSel {
			return by("or", t, n.A) + "?" + by("choice", t, n.B) + ":" + by("choice", t, n.C)
		}
		return by("or", t, i)
	case "minus":
		if n.Op == api.OpNeg {
			return "-" + by("minus", t, n.A)
		}
		return primary(t, i)
	}
	level := levels[rule]
	if mark, ok := level.marks[n.Op]; ok {
		return by(level.first, t, n.A) + mark + by(level.next, t, n.B)
	}
	return by(level.next, t, i)
}

func primary(t api.Tree, i int) string {
	n := t.Nodes[i]
	switch n.Op {
	case api.OpNum:
		return fmt.Sprint(n.K)
	case api.OpIn:
		return inputs[n.K]
	case api.OpUse:
		return t.Names[n.K]
	case api.OpPlace:
		return placed(n.At)
	}
	name, ok := calls[n.Op]
	if !ok {
		return "(" + by("choice", t, i) + ")"
	}
	var parts []string
	for _, p := range []int{n.A, n.B, n.C}[:trees[n.Op]] {
		parts = append(parts, by("choice", t, p))
	}
	return name + "(" + strings.Join(parts, ",") + ")"
}

func placed(at api.Place) string {
	text := fmt.Sprint(at.X)
	if at.Coords == 2 {
		text += fmt.Sprint(",", at.Y)
	}
	if at.Back == 0 {
		return "p(" + text + ")"
	}
	return fmt.Sprintf("q(%d,%s)", at.Back, text)
}

// Expressions, and the trees of them.

// expr is an expression with its parts in it.
type expr struct {
	op, k int
	at    api.Place
	parts []expr
}

func num(k int) expr                { return expr{op: api.OpNum, k: k} }
func in(k int) expr                 { return expr{op: api.OpIn, k: k} }
func use(k int) expr                { return expr{op: api.OpUse, k: k} }
func of(op int, parts ...expr) expr { return expr{op: op, parts: parts} }
func neg(e expr) expr               { return of(api.OpNeg, e) }
func sel(a, b, c expr) expr         { return of(api.OpSel, a, b, c) }
func place(back, x int) expr {
	return expr{op: api.OpPlace, at: api.Place{Back: back, Coords: 1, X: x}}
}
func place2(back, x, y int) expr {
	return expr{op: api.OpPlace, at: api.Place{Back: back, Coords: 2, X: x, Y: y}}
}

// alone answers the tree of an expression.
func alone(e expr) api.Tree { return laid(nil, nil, e) }

// laid answers the tree of expressions: their nodes in the order in which they are finished.
func laid(names []string, is []expr, last expr) api.Tree {
	t := api.Tree{Names: names}
	for _, e := range is {
		t.Binds = append(t.Binds, lay(&t, e))
	}
	t.Root = lay(&t, last)
	return t
}

func lay(t *api.Tree, e expr) int {
	n := api.Node{Op: e.op, K: e.k, At: e.at}
	for i, to := range []*int{&n.A, &n.B, &n.C}[:len(e.parts)] {
		*to = lay(t, e.parts[i])
	}
	t.Nodes = append(t.Nodes, n)
	return len(t.Nodes) - 1
}

// What is asked of Print.

// alike tells whether two trees are alike; a list without elements may be nil or not.
func alike(a, b api.Tree) bool {
	return slices.Equal(a.Names, b.Names) && slices.Equal(a.Binds, b.Binds) && slices.Equal(a.Nodes, b.Nodes) && a.Root == b.Root
}

// copied answers a tree that shares no memory with another.
func copied(x api.Tree) api.Tree {
	return api.Tree{Names: slices.Clone(x.Names), Binds: slices.Clone(x.Binds), Nodes: slices.Clone(x.Nodes), Root: x.Root}
}

// told answers a tree as a text, which may have any numbers.
func told(t api.Tree) string {
	nodes, names, binds := t.Nodes[:min(len(t.Nodes), 20)], t.Names[:min(len(t.Names), 20)], t.Binds[:min(len(t.Binds), 20)]
	return fmt.Sprintf("%d nodes %+v %d names %.50q binds %v root %d", len(t.Nodes), nodes, len(t.Names), names, binds, t.Root)
}

// treeOf answers the tree of a text that has one.
func treeOf(t *testing.T, text string) api.Tree {
	t.Helper()
	x, e := parse.Parse(text)
	if e != api.OK {
		t.Fatalf("Parse(%q): %d", text, e)
	}
	return x
}

// holds asks Print for a text, and for all that 8.2 says of it.
func holds(t *testing.T, x api.Tree, want string) {
	t.Helper()
	before := copied(x)
	got, e := print.Print(x)
	if got != want || e != api.OK {
		t.Errorf("Print(%s) = %q, %d, not %q", told(x), got, e, want)
		return
	}
	if !alike(x, before) {
		t.Errorf("Print of %q changed its tree to %s", want, told(x))
	}
	if y, e := parse.Parse(got); e != api.OK || !alike(x, y) {
		t.Errorf("%q is read as %s, %d, not as %s", got, told(y), e, told(x))
	}
	for _, pair := range brackets(t, got) {
		text := []byte(got)
		text[pair[0]], text[pair[1]] = ' ', ' '
		if y, e := parse.Parse(string(text)); e == api.OK && alike(x, y) {
			t.Errorf("%q needs no brackets at %d and %d", got, pair[0], pair[1])
		}
	}
	if strings.Count(got, " ") != len(x.Names) {
		t.Errorf("%q has other blanks than those behind let", got)
	}
}

// limited asks Print for ErrLimit, and nothing beside it.
func limited(t *testing.T, x api.Tree) {
	t.Helper()
	before := copied(x)
	if got, e := print.Print(x); e != api.ErrLimit || got != "" {
		t.Errorf("Print(%s) = %q, %d, not ErrLimit", told(x), got, e)
	}
	if !alike(x, before) {
		t.Errorf("Print changed %s", told(before))
	}
}

// refused asks Print for ErrForm, and nothing beside it.
func refused(t *testing.T, why string, x api.Tree) {
	t.Helper()
	before := copied(x)
	if got, e := print.Print(x); e != api.ErrForm || got != "" {
		t.Errorf("%s: Print(%s) = %q, %d, not ErrForm", why, told(x), got, e)
	}
	if !alike(x, before) {
		t.Errorf("Print changed %s", told(before))
	}
}

// modelled holds Print of any tree against the model.
func modelled(t *testing.T, x api.Tree) {
	t.Helper()
	if parse.Check(x) != api.OK {
		refused(t, "unsound", x)
		return
	}
	if text := model(x); len(text) > 1024 {
		limited(t, x)
	} else {
		holds(t, x, text)
	}
}

// read holds Print of a text's tree against the model, and asks that it is no longer than the text.
func read(t *testing.T, text string) {
	t.Helper()
	x := treeOf(t, text)
	modelled(t, x)
	if got, _ := print.Print(x); len(got) > len(text) {
		t.Errorf("Print of %q is %q, which is longer", text, got)
	}
}

// brackets answers the places of all pairs of brackets about a part: those that stand behind no word.
func brackets(t *testing.T, text string) [][2]int {
	t.Helper()
	tokens, e := lex.Tokens(text)
	if e != api.OK {
		t.Fatalf("Tokens(%q): %d", text, e)
	}
	var open []int
	var pairs [][2]int
	for i, x := range tokens {
		switch x.Text {
		case "(":
			open = append(open, i)
		case ")":
			at := open[len(open)-1]
			open = open[:len(open)-1]
			if at == 0 || tokens[at-1].Kind != api.TokWord {
				pairs = append(pairs, [2]int{tokens[at].At, x.At})
			}
		}
	}
	return pairs
}

// bracketed answers a text of an expression with brackets about every part, those of calls among them; about leaves they stand at will.
func bracketed(e expr, names []string, leaves bool) string {
	if len(e.parts) == 0 {
		return primary(api.Tree{Names: names, Nodes: []api.Node{{Op: e.op, K: e.k, At: e.at}}}, 0)
	}
	var parts []string
	for _, p := range e.parts {
		text := bracketed(p, names, leaves)
		if leaves || len(p.parts) > 0 {
			text = "(" + text + ")"
		}
		parts = append(parts, text)
	}
	if name, ok := calls[e.op]; ok {
		return name + "(" + strings.Join(parts, ",") + ")"
	}
	switch e.op {
	case api.OpNeg:
		return "-" + parts[0]
	case api.OpSel:
		return parts[0] + "?" + parts[1] + ":" + parts[2]
	}
	return parts[0] + markOf(e.op) + parts[1]
}

// markOf answers the mark of an operator of two.
func markOf(op int) string {
	for _, level := range levels {
		if mark, ok := level.marks[op]; ok {
			return mark
		}
	}
	panic("no operator of two")
}

// shortest answers the shortest text that is read as a text's tree, if any of its pairs of brackets may be left out.
func shortest(t *testing.T, text string) string {
	t.Helper()
	x := treeOf(t, text)
	pairs := brackets(t, text)
	best := text
	for set := range 1 << len(pairs) {
		bytes := []byte(text)
		for i, pair := range pairs {
			if set>>i&1 == 1 {
				bytes[pair[0]], bytes[pair[1]] = ' ', ' '
			}
		}
		less := strings.ReplaceAll(string(bytes), " ", "")
		if y, e := parse.Parse(string(bytes)); e == api.OK && alike(x, y) && len(less) < len(best) {
			best = less
		}
	}
	return best
}
