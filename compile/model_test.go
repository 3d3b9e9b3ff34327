package compile_test

import (
	"bytes"
	"fmt"
	"math/big"
	"slices"
	"strconv"
	"strings"
	"testing"

	"damask/api"
	"damask/check"
	"damask/code"
	"damask/compile"
	"damask/eval"
	"damask/lower"
	"damask/pack"
	"damask/parse"
	"damask/passes"
	"damask/print"
	"damask/verify"
)

// The ends of the numbers of 32 bits.
const (
	least = -1 << 31
	most  = 1<<31 - 1
)

var (
	image = api.Kind{Form: api.Image, Depth: 8}
	sound = api.Kind{Form: api.Sound, Depth: 16}
)

// Codes as texts: "place 16; num 0; add 0 1; shlk 2 3; out 3" names the operators in small letters, behind each the registers that it reads, and behind these its constants. Without an out the last register is the answer.

// names are the operators, by their numbers.
var names = strings.Fields("none num in place use neg abs sgn add sub mul div mod shl shr and or xor lt le gt ge eq ne min max clamp med sel shlk shrk andk mulk muls")

// reads is how many registers the operators read; what isn't told here reads two.
var reads = map[string]int{"num": 0, "in": 0, "place": 0, "neg": 1, "abs": 1, "sgn": 1, "shlk": 1, "shrk": 1, "andk": 1, "mulk": 1, "muls": 1, "clamp": 3, "med": 3, "sel": 3}

// constants is how many constants the operators have; what isn't told here has none.
var constants = map[string]int{"num": 1, "in": 1, "place": 1, "shlk": 1, "shrk": 1, "andk": 1, "mulk": 1, "muls": 2}

// words are numbers that are written as words.
var words = map[string]int{"least": least, "most": most, "x": 0, "y": 1, "c": 2, "lo": 3, "hi": 4, "mid": 5}

// all are the names of all operators of register code.
var all = slices.DeleteFunc(slices.Clone(names), func(name string) bool { return name == "none" || name == "use" })

func readsOf(name string) int {
	if count, ok := reads[name]; ok {
		return count
	}
	return 2
}

func number(word string) int {
	if x, ok := words[word]; ok {
		return x
	}
	x, e := strconv.Atoi(word)
	if e != nil {
		panic(e)
	}
	return x
}

// inst reads an instruction.
func inst(text string) api.Inst {
	list := strings.Fields(text)
	n := api.Inst{Op: slices.Index(names, list[0])}
	fields := slices.Concat([]*int{&n.A, &n.B, &n.C}[:readsOf(list[0])], []*int{&n.K, &n.S}[:constants[list[0]]])
	if n.Op < 0 || len(list) != 1+len(fields) {
		panic(text)
	}
	for i, field := range fields {
		*field = number(list[1+i])
	}
	return n
}

// codedFor reads a code of a kind.
func codedFor(k api.Kind, text string) api.Code {
	c := api.Code{Kind: k, Out: -1}
	for _, part := range strings.Split(text, ";") {
		if word, out := strings.CutPrefix(strings.TrimSpace(part), "out "); out {
			c.Out = number(word)
			continue
		}
		c.Insts = append(c.Insts, inst(part))
	}
	if c.Out < 0 {
		c.Out = len(c.Insts) - 1
	}
	return c
}

// coded reads a code of {Image, 8}.
func coded(text string) api.Code { return codedFor(image, text) }

// listed answers a code that answers its last register.
func listed(k api.Kind, list ...api.Inst) api.Code {
	return api.Code{Kind: k, Insts: list, Out: len(list) - 1}
}

func num(k int) api.Inst { return api.Inst{Op: api.OpNum, K: k} }

// repeated writes instructions so often, each with the number of its register less so many in the place of @1, @2, @3.
func repeated(start, text string, count int) string {
	for range count {
		own := strings.Count(start, ";") + 1
		start += "; " + strings.NewReplacer("@1", fmt.Sprint(own-1), "@2", fmt.Sprint(own-2), "@3", fmt.Sprint(own-3)).Replace(text)
	}
	return start
}

// shown answers a code as a text: its first instructions, if it has many.
func shown(c api.Code) string {
	var list []string
	for _, n := range c.Insts[:min(len(c.Insts), 40)] {
		if n.Op < 1 || n.Op >= len(names) {
			list = append(list, fmt.Sprintf("%+v", n))
			continue
		}
		list = append(list, fmt.Sprintf("%s %d %d %d with %d %d", names[n.Op], n.A, n.B, n.C, n.K, n.S))
	}
	return fmt.Sprintf("%v: %d insts %s; out %d", c.Kind, len(c.Insts), strings.Join(list, "; "), c.Out)
}

// The models of a run: what each register of a code comes to, and each node of a tree, by the words of chapters 3, 4, 10 and 11, on whole numbers without bounds.

// samples answers the least sample of a kind, the greatest, and the one at the border.
func samples(k api.Kind) (low, high, border int) {
	if k.Form == api.Image {
		return 0, 1<<k.Depth - 1, 1 << (k.Depth - 1)
	}
	return -1 << (k.Depth - 1), 1<<(k.Depth-1) - 1, 0
}

// ends answers the greatest X, Y and C of a form; the least are 0.
func ends(form int) (x, y, c int) {
	if form == api.Image {
		return 4095, 4095, 3
	}
	return 1048575, 0, 3
}

// placesOf answers the places of a form, by their numbers.
func placesOf(form int) []api.Place {
	var list []api.Place
	row := func(back, coords, y, from, to int) {
		for x := from; x <= to; x++ {
			list = append(list, api.Place{Back: back, Coords: coords, X: x, Y: y})
		}
	}
	if form == api.Sound {
		row(0, 1, 0, -16, -1)
		for back := 1; back <= 3; back++ {
			row(back, 1, 0, -4, 0)
		}
		return list
	}
	row(0, 2, -2, -3, 3)
	row(0, 2, -1, -3, 3)
	row(0, 2, 0, -3, -1)
	for back := 1; back <= 3; back++ {
		for y := -1; y <= 1; y++ {
			row(back, 2, y, -1, 1)
		}
	}
	return list
}

// places answers how many places a form has.
func places(form int) int { return len(placesOf(form)) }

// mayBe tells whether a kind may be.
func mayBe(k api.Kind) bool {
	return (k.Form == 0 || k.Form == 1) && 1 <= k.Depth && k.Depth <= 16
}

// fits tells whether a window fits a kind that may be.
func fits(k api.Kind, w api.Window) bool {
	x, y, c := ends(k.Form)
	if w.X < 0 || w.X > x || w.Y < 0 || w.Y > y || w.C < 0 || w.C > c || len(w.P) != places(k.Form) {
		return false
	}
	low, high, _ := samples(k)
	return low <= slices.Min(w.P) && slices.Max(w.P) <= high
}

// model answers what all registers come to on a window that fits; none, if there is an instruction that comes to nothing.
func model(c api.Code, w api.Window) []int {
	var list []*big.Int
	for _, n := range c.Insts {
		var v *big.Int
		switch n.Op {
		case api.OpPlace:
			v = whole(w.P[n.K])
		case api.OpNum, api.OpIn:
			v = brought(c.Kind, n.Op, n.K, w)
		default:
			v = operated(n, list)
		}
		if v == nil || !short(v) {
			return nil
		}
		list = append(list, v)
	}
	return values(list)
}

// meaning answers so of all nodes of a tree.
func meaning(k api.Kind, x api.Tree, w api.Window) []int {
	var list []*big.Int
	for _, n := range x.Nodes {
		var v *big.Int
		switch n.Op {
		case api.OpPlace:
			v = whole(w.P[slices.Index(placesOf(k.Form), n.At)])
		case api.OpUse:
			v = list[x.Binds[n.K]]
		case api.OpNum, api.OpIn:
			v = brought(k, n.Op, n.K, w)
		default:
			v = operated(api.Inst{Op: n.Op, A: n.A, B: n.B, C: n.C}, list)
		}
		if v == nil || !short(v) {
			return nil
		}
		list = append(list, v)
	}
	return values(list)
}

// brought answers what a number or an input comes to.
func brought(k api.Kind, op, n int, w api.Window) *big.Int {
	if op == api.OpNum {
		return whole(n)
	}
	low, high, border := samples(k)
	return whole([]int{w.X, w.Y, w.C, low, high, border}[n])
}

// short tells whether a number has 32 bits.
func short(v *big.Int) bool { return v.Cmp(whole(least)) >= 0 && v.Cmp(whole(most)) <= 0 }

func values(numbers []*big.Int) []int {
	var list []int
	for _, v := range numbers {
		list = append(list, int(v.Int64()))
	}
	return list
}

func whole(x int) *big.Int { return big.NewInt(int64(x)) }

// operated answers what an instruction makes of the registers ahead; nil: there is no answer.
func operated(n api.Inst, list []*big.Int) *big.Int {
	switch readsOf(names[n.Op]) {
	case 1:
		return ofOne(n, list[n.A])
	case 2:
		return ofTwo(n.Op, list[n.A], list[n.B])
	}
	return ofThree(n.Op, list[n.A], list[n.B], list[n.C])
}

func ofOne(n api.Inst, a *big.Int) *big.Int {
	switch n.Op {
	case api.OpNeg:
		return new(big.Int).Neg(a)
	case api.OpAbs:
		return new(big.Int).Abs(a)
	case api.OpSgn:
		return whole(a.Sign())
	case api.OpMulS:
		v := new(big.Int).Mul(a, whole(n.K))
		if new(big.Int).Abs(v).Cmp(whole(1<<62)) > 0 {
			return nil
		}
		return v.Rsh(v, uint(n.S))
	}
	with := map[int]int{api.OpShlK: api.OpShl, api.OpShrK: api.OpShr, api.OpAndK: api.OpAnd, api.OpMulK: api.OpMul}
	return ofTwo(with[n.Op], a, whole(n.K))
}

func ofTwo(op int, a, b *big.Int) *big.Int {
	v := new(big.Int)
	switch op {
	case api.OpAdd:
		return v.Add(a, b)
	case api.OpSub:
		return v.Sub(a, b)
	case api.OpMul:
		return v.Mul(a, b)
	case api.OpDiv, api.OpMod:
		if b.Sign() == 0 {
			return nil
		}
		if op == api.OpDiv {
			return v.Quo(a, b)
		}
		return v.Rem(a, b)
	case api.OpShl, api.OpShr:
		if b.Sign() < 0 || b.Cmp(whole(31)) > 0 {
			return nil
		}
		if op == api.OpShl {
			return v.Lsh(a, uint(b.Int64()))
		}
		return v.Rsh(a, uint(b.Int64()))
	case api.OpAnd:
		return v.And(a, b)
	case api.OpOr:
		return v.Or(a, b)
	case api.OpXor:
		return v.Xor(a, b)
	case api.OpMin:
		return slices.MinFunc([]*big.Int{a, b}, (*big.Int).Cmp)
	case api.OpMax:
		return slices.MaxFunc([]*big.Int{a, b}, (*big.Int).Cmp)
	}
	order := a.Cmp(b)
	if map[int]bool{api.OpLt: order < 0, api.OpLe: order <= 0, api.OpGt: order > 0, api.OpGe: order >= 0, api.OpEq: order == 0, api.OpNe: order != 0}[op] {
		return whole(1)
	}
	return whole(0)
}

func ofThree(op int, a, b, c *big.Int) *big.Int {
	list := []*big.Int{a, b, c}
	switch op {
	case api.OpClamp:
		return slices.MinFunc([]*big.Int{c, slices.MaxFunc(list[:2], (*big.Int).Cmp)}, (*big.Int).Cmp)
	case api.OpMed:
		slices.SortFunc(list, (*big.Int).Cmp)
		return list[1]
	}
	if a.Sign() != 0 {
		return b
	}
	return c
}

// Windows.

// windowOf answers a window of a kind: of the lowest numbers, of the highest, of both in turn, else a mixture.
func windowOf(k api.Kind, seed uint) api.Window {
	next := draw(seed)
	turn := 0
	from := func(low, high int) int {
		turn++
		switch {
		case seed == 0, seed == 2 && turn%2 == 0:
			return low
		case seed <= 2:
			return high
		case next(3) == 0:
			return []int{low, high}[next(2)]
		}
		return low + next(high-low+1)
	}
	x, y, c := ends(k.Form)
	w := api.Window{X: from(0, x), Y: from(0, y), C: from(0, c)}
	low, high, _ := samples(k)
	for range places(k.Form) {
		w.P = append(w.P, from(low, high))
	}
	return w
}

// windowsOf answers so many windows of a kind.
func windowsOf(k api.Kind, count int) []api.Window {
	var list []api.Window
	for seed := range uint(count) {
		list = append(list, windowOf(k, seed))
	}
	return list
}

// copied answers a window that shares no memory with another.
func copied(w api.Window) api.Window {
	w.P = slices.Clone(w.P)
	return w
}

// draw answers numbers below n, by a walk that a seed sets.
func draw(seed uint) func(n int) int {
	return func(n int) int {
		seed += 0x9e3779b97f4a7c15
		z := (seed ^ seed>>30) * 0xbf58476d1ce4e5b9
		z = (z ^ z>>27) * 0x94d049bb133111eb
		return int(z>>33) % n
	}
}

// kinds goes over all kinds that may be.
func kinds(do func(k api.Kind)) {
	for form := range 2 {
		for depth := 1; depth <= 16; depth++ {
			do(api.Kind{Form: form, Depth: depth})
		}
	}
}

// octets reads bytes from a text: "1 0 8, 0xc9 1".
func octets(text string) []byte {
	var b []byte
	for _, word := range strings.Fields(strings.ReplaceAll(text, ",", " ")) {
		x, e := strconv.ParseUint(word, 0, 8)
		if e != nil {
			panic(e)
		}
		b = append(b, byte(x))
	}
	return b
}

// hexed writes bytes.
func hexed(b []byte) string {
	if len(b) > 60 {
		return fmt.Sprintf("% x and others, %d in all", b[:60], len(b))
	}
	return fmt.Sprintf("% x", b)
}

// What is asked of the calls.

// roomyBytes answers bytes that have spare room, filled with marks, and a function that tells whether all of it still stands.
func roomyBytes(b []byte) ([]byte, func() bool) {
	list := slices.Concat(b, []byte{0xa5, 0x5a, 0, 1, 0xa5})
	was := slices.Clone(list)
	return list[:len(b)], func() bool { return bytes.Equal(list, was) }
}

// roomyWindow does so with a window.
func roomyWindow(w api.Window) (api.Window, func() bool) {
	list := slices.Concat(w.P, []int{-77777, -77777})
	was := slices.Clone(list)
	return api.Window{X: w.X, Y: w.Y, C: w.C, P: list[:len(w.P)]}, func() bool { return slices.Equal(list, was) }
}

// subject is a program with what it must tell, as the layers below make it.
type subject struct {
	p    *compile.Program
	c    api.Code
	text string // of a loaded program none
	tree api.Tree
	cost int
}

// ofText answers what a text's program must be, by the steps of 22.1.
func ofText(t *testing.T, text string, k api.Kind) (subject, api.Errno) {
	t.Helper()
	if !mayBe(k) {
		return subject{}, api.ErrInput
	}
	tree, e := parse.Parse(text)
	if e != api.OK {
		return subject{}, e
	}
	r, e := check.Check(k, tree)
	if e != api.OK {
		return subject{}, e
	}
	c, e := lower.Lower(k, tree)
	best, f := passes.Best(c)
	tight, g := print.Print(tree)
	if e != api.OK || f != api.OK || g != api.OK {
		t.Fatalf("%.200q for %v: lowered %d, behind the passes %d, printed %d", text, k, e, f, g)
	}
	return subject{c: best, text: tight, tree: tree, cost: r.Cost}, api.OK
}

// ofBytes answers what the program of bytes must be, by the steps of 22.2.
func ofBytes(b []byte, k api.Kind) (subject, api.Errno) {
	if !mayBe(k) {
		return subject{}, api.ErrInput
	}
	c, e := pack.Decode(b)
	if e != api.OK {
		return subject{}, e
	}
	if c.Kind != k {
		return subject{}, api.ErrProgram
	}
	if _, e := verify.Verify(c); e != api.OK {
		return subject{}, e
	}
	return subject{c: c, cost: code.Cost(c)}, api.OK
}

// compiled holds Compile of any text and kind against the layers below, and asks of a program all that it tells.
func compiled(t *testing.T, text string, k api.Kind) (subject, api.Errno) {
	t.Helper()
	s, f := ofText(t, text, k)
	p, e := compile.Compile(text, k)
	if e != f || (p == nil) != (f != api.OK) {
		t.Fatalf("Compile(%.200q, %v) = a program: %v, %d, but step by step it is %d", text, k, p != nil, e, f)
	}
	if mayBe(k) && !slices.Contains([]api.Errno{api.OK, api.ErrSyntax, api.ErrAhead, api.ErrDivZero, api.ErrOverflow, api.ErrCost}, e) {
		t.Errorf("Compile(%.200q, %v): %d is none of the five", text, k, e)
	}
	s.p = p
	if e == api.OK {
		s.tells(t)
		s.again(t)
	}
	return s, e
}

// loaded does so with Load of any bytes.
func loaded(t *testing.T, b []byte, k api.Kind) (subject, api.Errno) {
	t.Helper()
	s, f := ofBytes(b, k)
	a, stands := roomyBytes(b)
	p, e := compile.Load(a, k)
	if e != f || (p == nil) != (f != api.OK) {
		t.Fatalf("Load(%s, %v) = a program: %v, %d, but step by step it is %d", hexed(b), k, p != nil, e, f)
	}
	if !stands() {
		t.Errorf("Load(%s, %v) changed its bytes", hexed(b), k)
	}
	s.p = p
	if e == api.OK {
		s.tells(t)
		if !bytes.Equal(p.Bytes(), b) {
			t.Errorf("Load(%s, %v): its bytes are %s", hexed(b), k, hexed(p.Bytes()))
		}
	}
	return s, e
}

// tells asks for all that a program tells without a window.
func (s subject) tells(t *testing.T) {
	t.Helper()
	b, e := pack.Encode(s.c)
	if e != api.OK {
		t.Fatalf("Encode(%s): %d", shown(s.c), e)
	}
	if s.p.Text() != s.text || s.p.Kind() != s.c.Kind || s.p.Cost() != s.cost || !code.Same(s.p.Code(), s.c) || !bytes.Equal(s.p.Bytes(), b) {
		t.Fatalf("the program tells %q, %v, the cost %d, %s, %s; not %q, the cost %d, %s, %s", s.p.Text(), s.p.Kind(), s.p.Cost(), shown(s.p.Code()), hexed(s.p.Bytes()), s.text, s.cost, shown(s.c), hexed(b))
	}
	if !s.p.Same(s.p) || s.p.Same(nil) {
		t.Errorf("%s: Same of itself %v, of nil %v", shown(s.c), s.p.Same(s.p), s.p.Same(nil))
	}
}

// again asks 22.5 of a text's program: its bytes are loaded as its code, which costs no more, its text is read as its tree and compiled to that code again.
func (s subject) again(t *testing.T) {
	t.Helper()
	k := s.c.Kind
	l, e := loaded(t, s.p.Bytes(), k)
	if e != api.OK || !l.p.Same(s.p) || !s.p.Same(l.p) || l.p.Cost() > s.p.Cost() {
		t.Fatalf("%q for %v, loaded: %d, or it is another one, or dearer", s.text, k, e)
	}
	if tree, e := parse.Parse(s.p.Text()); e != api.OK || !slices.Equal(tree.Nodes, s.tree.Nodes) || !slices.Equal(tree.Names, s.tree.Names) || !slices.Equal(tree.Binds, s.tree.Binds) || tree.Root != s.tree.Root {
		t.Errorf("%q is read as another tree, or refused: %d", s.text, e)
	}
	q, e := compile.Compile(s.p.Text(), k)
	if e != api.OK || !q.Same(s.p) || q.Text() != s.text || q.Cost() != s.cost || !bytes.Equal(q.Bytes(), s.p.Bytes()) {
		t.Fatalf("%q for %v, compiled again: %d, or it is another one", s.text, k, e)
	}
}

// taken answers the program of a text that has one.
func taken(t *testing.T, text string, k api.Kind) subject {
	t.Helper()
	s, e := compiled(t, text, k)
	if e != api.OK {
		t.Fatalf("Compile(%.200q, %v): %d", text, k, e)
	}
	return s
}

// brings answers the program that is loaded from a harmless code's bytes.
func brings(t *testing.T, c api.Code) subject {
	t.Helper()
	b, e := pack.Encode(c)
	if e != api.OK {
		t.Fatalf("Encode(%s): %d", shown(c), e)
	}
	s, e := loaded(t, b, c.Kind)
	if e != api.OK {
		t.Fatalf("Load of %s: %d", shown(c), e)
	}
	return s
}

// refused asks for an error of Compile, with a nil program beside it.
func refused(t *testing.T, text string, k api.Kind, want api.Errno) {
	t.Helper()
	if s, e := compiled(t, text, k); e != want || s.p != nil {
		t.Errorf("Compile(%.200q, %v) = a program: %v, %d, not nil and %d", text, k, s.p != nil, e, want)
	}
}

// refusedBytes asks so of Load.
func refusedBytes(t *testing.T, b []byte, k api.Kind, want api.Errno) {
	t.Helper()
	if s, e := loaded(t, b, k); e != want || s.p != nil {
		t.Errorf("Load(%s, %v) = a program: %v, %d, not nil and %d", hexed(b), k, s.p != nil, e, want)
	}
}

// is asks for what a program tells, as it is written by hand.
func (s subject) is(t *testing.T, text string, cost int, insts string) {
	t.Helper()
	if want := codedFor(s.c.Kind, insts); s.p.Text() != text || s.p.Cost() != cost || !code.Same(s.p.Code(), want) {
		t.Errorf("%q, the cost %d, %s; not %q, %d, %s", s.p.Text(), s.p.Cost(), shown(s.p.Code()), text, cost, shown(want))
	}
}

// runsNothing asks for ErrInput of both runs, also where the spare room of the window has what is missing.
func runsNothing(t *testing.T, p *compile.Program, w api.Window) {
	t.Helper()
	roomy, stands := roomyWindow(w)
	for _, v := range []api.Window{w, roomy} {
		value, steps, e := p.Value(v)
		quick, f := p.Quick(v)
		if value != 0 || steps != 0 || e != api.ErrInput || quick != 0 || f != api.ErrInput {
			t.Errorf("on %v: Value answers %d, %d, %d, Quick %d, %d", v, value, steps, e, quick, f)
		}
	}
	if !stands() {
		t.Errorf("the window %v was changed", w)
	}
}

// unfit asks that both runs refuse a window.
func (s subject) unfit(t *testing.T, w api.Window) {
	t.Helper()
	if fits(s.c.Kind, w) {
		t.Fatalf("%v fits %v", w, s.c.Kind)
	}
	runsNothing(t, s.p, w)
}

// runs holds both runs, on any window, against the models and the tree's value; it answers what the program comes to, and whether the window fits.
func (s subject) runs(t *testing.T, w api.Window) (int, bool) {
	t.Helper()
	if !fits(s.c.Kind, w) {
		s.unfit(t, w)
		return 0, false
	}
	list := model(s.c, w)
	if len(list) == 0 {
		t.Fatalf("%s was taken, but one of its registers comes to nothing on %v", shown(s.c), w)
	}
	want := list[s.c.Out]
	if s.text != "" {
		nodes := meaning(s.c.Kind, s.tree, w)
		root, e := eval.Eval(s.c.Kind, s.tree, w)
		if len(nodes) == 0 || nodes[s.tree.Root] != want || root != want || e != api.OK {
			t.Fatalf("%q, %s on %v: the code comes to %d, the nodes to %v, Eval answers %d, %d", s.text, shown(s.c), w, want, nodes, root, e)
		}
	}
	s.answers(t, w, want)
	return want, true
}

// answers asks for what a program comes to, both ways, in as many steps as it has instructions, and that the window stays.
func (s subject) answers(t *testing.T, w api.Window, want int) {
	t.Helper()
	v, stands := roomyWindow(w)
	value, steps, e := s.p.Value(v)
	quick, f := s.p.Quick(v)
	if value != want || steps != len(s.c.Insts) || e != api.OK || quick != want || f != api.OK {
		t.Fatalf("%q, %s on %v: Value answers %d, %d, %d, Quick %d, %d, not %d in %d steps", s.text, shown(s.c), w, value, steps, e, quick, f, want, len(s.c.Insts))
	}
	if steps > s.p.Cost() || steps > api.MaxCost {
		t.Errorf("%q, %s: %d steps, but it costs %d", s.text, shown(s.c), steps, s.p.Cost())
	}
	if !stands() {
		t.Errorf("%s changed the window %v", shown(s.c), w)
	}
}
