package chain_test

import (
	"fmt"
	"math/big"
	"slices"
	"strconv"
	"strings"
	"testing"

	"damask/api"
	"damask/chain"
	"damask/code"
	"damask/verify"
	"damask/vm"
)

// The ends of the numbers of 32 bits.
const (
	least = -1 << 31
	most  = 1<<31 - 1
)

var (
	image = api.Kind{Form: api.Image, Depth: 8}
	sound = api.Kind{Form: api.Sound, Depth: 16}
)

// Codes as texts: "place 16; num 0; add 0 1; shlk 2 3; out 3" names the operators in small letters, behind each the registers that it reads, and behind these its constants. Without an out the last register is the answer.

// names are the operators, by their numbers.
var names = strings.Fields("none num in place use neg abs sgn add sub mul div mod shl shr and or xor lt le gt ge eq ne min max clamp med sel shlk shrk andk mulk muls")

// reads is how many registers the operators read; what isn't told here reads two.
var reads = map[string]int{"num": 0, "in": 0, "place": 0, "neg": 1, "abs": 1, "sgn": 1, "shlk": 1, "shrk": 1, "andk": 1, "mulk": 1, "muls": 1, "clamp": 3, "med": 3, "sel": 3}

// constants is how many constants the operators have; what isn't told here has none.
var constants = map[string]int{"num": 1, "in": 1, "place": 1, "shlk": 1, "shrk": 1, "andk": 1, "mulk": 1, "muls": 2}

// words are numbers that are written as words.
var words = map[string]int{"least": least, "most": most, "x": 0, "y": 1, "c": 2, "lo": 3, "hi": 4, "mid": 5}

// all are the names of all operators of register code.
var all = slices.DeleteFunc(slices.Clone(names), func(name string) bool { return name == "none" || name == "use" })

func readsOf(name string) int {
	if count, ok := reads[name]; ok {
		return count
	}
	return 2
}

func number(word string) int {
	if x, ok := words[word]; ok {
		return x
	}
	x, e := strconv.Atoi(word)
	if e != nil {
		panic(e)
	}
	return x
}

// inst reads an instruction.
func inst(text string) api.Inst {
	list := strings.Fields(text)
	n := api.Inst{Op: slices.Index(names, list[0])}
	fields := slices.Concat([]*int{&n.A, &n.B, &n.C}[:readsOf(list[0])], []*int{&n.K, &n.S}[:constants[list[0]]])
	if n.Op < 0 || len(list) != 1+len(fields) {
		panic(text)
	}
	for i, field := range fields {
		*field = number(list[1+i])
	}
	return n
}

// codedFor reads a code of a kind.
func codedFor(k api.Kind, text string) api.Code {
	c := api.Code{Kind: k, Out: -1}
	for _, part := range strings.Split(text, ";") {
		if word, out := strings.CutPrefix(strings.TrimSpace(part), "out "); out {
			c.Out = number(word)
			continue
		}
		c.Insts = append(c.Insts, inst(part))
	}
	if c.Out < 0 {
		c.Out = len(c.Insts) - 1
	}
	return c
}

// coded reads a code of {Image, 8}.
func coded(text string) api.Code { return codedFor(image, text) }

// listed answers a code that answers its last register.
func listed(k api.Kind, list ...api.Inst) api.Code {
	return api.Code{Kind: k, Insts: list, Out: len(list) - 1}
}

func num(k int) api.Inst { return api.Inst{Op: api.OpNum, K: k} }

// reading answers an instruction with other registers in the place of its own.
func reading(n api.Inst, registers ...int) api.Inst {
	for i, to := range []*int{&n.A, &n.B, &n.C}[:len(registers)] {
		*to = registers[i]
	}
	return n
}

// repeated writes instructions so often, each with the number of its register less so many in the place of @1, @2, @3.
func repeated(start, text string, count int) string {
	for range count {
		own := strings.Count(start, ";") + 1
		start += "; " + strings.NewReplacer("@1", fmt.Sprint(own-1), "@2", fmt.Sprint(own-2), "@3", fmt.Sprint(own-3)).Replace(text)
	}
	return start
}

// shown answers a code as a text: its first instructions, if it has many.
func shown(c api.Code) string {
	var list []string
	for _, n := range c.Insts[:min(len(c.Insts), 40)] {
		if n.Op < 1 || n.Op >= len(names) {
			list = append(list, fmt.Sprintf("%+v", n))
			continue
		}
		list = append(list, fmt.Sprintf("%s %d %d %d with %d %d", names[n.Op], n.A, n.B, n.C, n.K, n.S))
	}
	return fmt.Sprintf("%v: %d insts %s; out %d", c.Kind, len(c.Insts), strings.Join(list, "; "), c.Out)
}

// The model of a run: what each register comes to, by the words of chapters 3, 4 and 11, on whole numbers without bounds.

// samples answers the least sample of a kind, the greatest, and the one at the border.
func samples(k api.Kind) (low, high, border int) {
	if k.Form == api.Image {
		return 0, 1<<k.Depth - 1, 1 << (k.Depth - 1)
	}
	return -1 << (k.Depth - 1), 1<<(k.Depth-1) - 1, 0
}

// ends answers the greatest X, Y and C of a form; the least are 0.
func ends(form int) (x, y, c int) {
	if form == api.Image {
		return 4095, 4095, 3
	}
	return 1048575, 0, 3
}

// places answers how many places a form has.
func places(form int) int { return []int{44, 31}[form] }

// fits tells whether a window fits a kind that may be.
func fits(k api.Kind, w api.Window) bool {
	x, y, c := ends(k.Form)
	if w.X < 0 || w.X > x || w.Y < 0 || w.Y > y || w.C < 0 || w.C > c || len(w.P) != places(k.Form) {
		return false
	}
	low, high, _ := samples(k)
	return low <= slices.Min(w.P) && slices.Max(w.P) <= high
}

// model answers what all registers must come to, of a code that is harmless.
func model(t *testing.T, c api.Code, w api.Window) ([]int, api.Errno) {
	t.Helper()
	if !fits(c.Kind, w) {
		return nil, api.ErrInput
	}
	low, high, border := samples(c.Kind)
	var list []*big.Int
	var values []int
	for i, n := range c.Insts {
		var v *big.Int
		switch n.Op {
		case api.OpNum:
			v = whole(n.K)
		case api.OpIn:
			v = whole([]int{w.X, w.Y, w.C, low, high, border}[n.K])
		case api.OpPlace:
			v = whole(w.P[n.K])
		default:
			v = operated(n, list)
		}
		if v == nil || v.Cmp(whole(least)) < 0 || v.Cmp(whole(most)) > 0 {
			t.Fatalf("%s was taken, but its register %d comes to %v on %v", shown(c), i, v, w)
		}
		list = append(list, v)
		values = append(values, int(v.Int64()))
	}
	return values, api.OK
}

func whole(x int) *big.Int { return big.NewInt(int64(x)) }

// operated answers what an instruction makes of the registers ahead; nil: there is no answer.
func operated(n api.Inst, list []*big.Int) *big.Int {
	switch readsOf(names[n.Op]) {
	case 1:
		return ofOne(n, list[n.A])
	case 2:
		return ofTwo(n.Op, list[n.A], list[n.B])
	}
	return ofThree(n.Op, list[n.A], list[n.B], list[n.C])
}

func ofOne(n api.Inst, a *big.Int) *big.Int {
	switch n.Op {
	case api.OpNeg:
		return new(big.Int).Neg(a)
	case api.OpAbs:
		return new(big.Int).Abs(a)
	case api.OpSgn:
		return whole(a.Sign())
	case api.OpMulS:
		v := new(big.Int).Mul(a, whole(n.K))
		if new(big.Int).Abs(v).Cmp(whole(1<<62)) > 0 {
			return nil
		}
		return v.Rsh(v, uint(n.S))
	}
	with := map[int]int{api.OpShlK: api.OpShl, api.OpShrK: api.OpShr, api.OpAndK: api.OpAnd, api.OpMulK: api.OpMul}
	return ofTwo(with[n.Op], a, whole(n.K))
}

func ofTwo(op int, a, b *big.Int) *big.Int {
	v := new(big.Int)
	switch op {
	case api.OpAdd:
		return v.Add(a, b)
	case api.OpSub:
		return v.Sub(a, b)
	case api.OpMul:
		return v.Mul(a, b)
	case api.OpDiv, api.OpMod:
		if b.Sign() == 0 {
			return nil
		}
		if op == api.OpDiv {
			return v.Quo(a, b)
		}
		return v.Rem(a, b)
	case api.OpShl, api.OpShr:
		if b.Sign() < 0 || b.Cmp(whole(31)) > 0 {
			return nil
		}
		if op == api.OpShl {
			return v.Lsh(a, uint(b.Int64()))
		}
		return v.Rsh(a, uint(b.Int64()))
	case api.OpAnd:
		return v.And(a, b)
	case api.OpOr:
		return v.Or(a, b)
	case api.OpXor:
		return v.Xor(a, b)
	case api.OpMin:
		return slices.MinFunc([]*big.Int{a, b}, (*big.Int).Cmp)
	case api.OpMax:
		return slices.MaxFunc([]*big.Int{a, b}, (*big.Int).Cmp)
	}
	order := a.Cmp(b)
	if map[int]bool{api.OpLt: order < 0, api.OpLe: order <= 0, api.OpGt: order > 0, api.OpGe: order >= 0, api.OpEq: order == 0, api.OpNe: order != 0}[op] {
		return whole(1)
	}
	return whole(0)
}

func ofThree(op int, a, b, c *big.Int) *big.Int {
	list := []*big.Int{a, b, c}
	switch op {
	case api.OpClamp:
		return slices.MinFunc([]*big.Int{c, slices.MaxFunc(list[:2], (*big.Int).Cmp)}, (*big.Int).Cmp)
	case api.OpMed:
		slices.SortFunc(list, (*big.Int).Cmp)
		return list[1]
	}
	if a.Sign() != 0 {
		return b
	}
	return c
}

// Windows.

// windowOf answers a window of a kind: of the lowest numbers, of the highest, of both in turn, else a mixture.
func windowOf(k api.Kind, seed uint) api.Window {
	next := draw(seed)
	turn := 0
	from := func(low, high int) int {
		turn++
		switch {
		case seed == 0, seed == 2 && turn%2 == 0:
			return low
		case seed <= 2:
			return high
		case next(3) == 0:
			return []int{low, high}[next(2)]
		}
		return low + next(high-low+1)
	}
	x, y, c := ends(k.Form)
	w := api.Window{X: from(0, x), Y: from(0, y), C: from(0, c)}
	low, high, _ := samples(k)
	for range places(k.Form) {
		w.P = append(w.P, from(low, high))
	}
	return w
}

// windowsOf answers so many windows of a kind.
func windowsOf(k api.Kind, count int) []api.Window {
	var list []api.Window
	for seed := range uint(count) {
		list = append(list, windowOf(k, seed))
	}
	return list
}

// copied answers a window that shares no memory with another.
func copied(w api.Window) api.Window {
	w.P = slices.Clone(w.P)
	return w
}

// draw answers numbers below n, by a walk that a seed sets.
func draw(seed uint) func(n int) int {
	return func(n int) int {
		seed += 0x9e3779b97f4a7c15
		z := (seed ^ seed>>30) * 0xbf58476d1ce4e5b9
		z = (z ^ z>>27) * 0x94d049bb133111eb
		return int(z>>33) % n
	}
}

// kinds goes over all kinds that may be.
func kinds(do func(k api.Kind)) {
	for form := range 2 {
		for depth := 1; depth <= 16; depth++ {
			do(api.Kind{Form: form, Depth: depth})
		}
	}
}

// What is asked of the calls.

// roomy answers a code whose list has spare room, filled with marks, and a function that tells whether all of it still stands.
func roomy(c api.Code) (api.Code, func() bool) {
	spare := []api.Inst{{Op: -7, A: -7}, {Op: -7, K: -7}}
	list := slices.Concat(c.Insts, spare)
	was := slices.Clone(list)
	return api.Code{Kind: c.Kind, Insts: list[:len(c.Insts)], Out: c.Out}, func() bool { return slices.Equal(list, was) }
}

// roomyWindow does so with a window.
func roomyWindow(w api.Window) (api.Window, func() bool) {
	list := slices.Concat(w.P, []int{-77777, -77777})
	was := slices.Clone(list)
	return api.Window{X: w.X, Y: w.Y, C: w.C, P: list[:len(w.P)]}, func() bool { return slices.Equal(list, was) }
}

// subject is a code that is harmless, with its chain and its machine, and with chains that answer other registers of it.
type subject struct {
	c      api.Code
	x      *chain.Chain
	m      *vm.Machine
	others map[int]*chain.Chain // by their Out
}

// made holds New of any code against Verify, and answers the code's subject; of a code that is refused its chain is nil.
func made(t *testing.T, c api.Code) (subject, api.Errno) {
	t.Helper()
	x, e := chained(t, c)
	if e != api.OK {
		return subject{c: c, x: x}, e
	}
	s := subject{c, x, machine(t, c), map[int]*chain.Chain{}}
	s.also(t, outs(len(c.Insts)))
	return s, api.OK
}

// also makes the chains that answer these registers of the subject's code.
func (s subject) also(t *testing.T, outs []int) {
	t.Helper()
	for _, out := range outs {
		c := s.c
		c.Out = out
		s.others[out], _ = chained(t, c)
	}
}

// machine answers the machine of a code that is harmless.
func machine(t *testing.T, c api.Code) *vm.Machine {
	t.Helper()
	m, e := vm.New(c)
	if e != api.OK {
		t.Fatalf("vm.New(%s): %d", shown(c), e)
	}
	return m
}

// chained answers what New does, and asks that Verify answers the same error, that there is a chain just beside OK, and that the code stays.
func chained(t *testing.T, c api.Code) (*chain.Chain, api.Errno) {
	t.Helper()
	d, stands := roomy(c)
	_, f := verify.Verify(c)
	x, e := chain.New(d)
	if e != f || (x == nil) != (f != api.OK) {
		t.Fatalf("New(%s) = %v, %d, but Verify answers %d", shown(c), x, e, f)
	}
	if !stands() {
		t.Errorf("New(%s) changed its code", shown(c))
	}
	return x, e
}

// outs answers registers of a code of so many: all of a short one, some of a long one.
func outs(count int) []int {
	if count > 10 {
		return []int{0, count / 3, count - 2}
	}
	return registers(count)
}

// registers answers the numbers of so many registers.
func registers(count int) []int {
	list := make([]int, count)
	for i := range list {
		list[i] = i
	}
	return list
}

// taken answers the subject of a code that is harmless.
func taken(t *testing.T, c api.Code) subject {
	t.Helper()
	s, e := made(t, c)
	if e != api.OK {
		t.Fatalf("New(%s): %d", shown(c), e)
	}
	return s
}

// refused asks for an error of New, with a nil chain beside it, which runs nothing.
func refused(t *testing.T, c api.Code, want api.Errno) {
	t.Helper()
	s, e := made(t, c)
	if e != want || s.x != nil {
		t.Errorf("New(%s) = %v, %d, not nil and the error %d", shown(c), s.x, e, want)
	}
	runsNothing(t, s.x, windowOf(image, 3))
}

// runsNothing asks for ErrInput, also where the spare room of the window has what is missing.
func runsNothing(t *testing.T, x *chain.Chain, w api.Window) {
	t.Helper()
	roomy, stands := roomyWindow(w)
	for _, v := range []api.Window{w, roomy} {
		if value, e := x.Run(v); value != 0 || e != api.ErrInput {
			t.Errorf("Run on %v answers %d, %d", v, value, e)
		}
	}
	if !stands() {
		t.Errorf("the window %v was changed", w)
	}
}

// unfit asks that a window is refused by the subject's chain.
func (s subject) unfit(t *testing.T, w api.Window) {
	t.Helper()
	if fits(s.c.Kind, w) {
		t.Fatalf("%v fits %v", w, s.c.Kind)
	}
	runsNothing(t, s.x, w)
}

// runs runs the subject's chains on a window, and holds them against the model, the machine and the code's own values; it answers what the registers come to, none on a window that doesn't fit.
func (s subject) runs(t *testing.T, w api.Window) []int {
	t.Helper()
	want, g := model(t, s.c, w)
	list, e := code.Values(s.c, w)
	trace, f := s.m.Trace(w)
	if e != g || f != g || !slices.Equal(list, want) || !slices.Equal(trace, want) {
		t.Fatalf("%s on %v: code.Values answers %v, %d, the machine %v, %d, not %v, %d", shown(s.c), w, list, e, trace, f, want, g)
	}
	if g != api.OK {
		runsNothing(t, s.x, w)
		return nil
	}
	s.comesTo(t, w, s.x, want[s.c.Out])
	for out, x := range s.others {
		s.comesTo(t, w, x, want[out])
	}
	return want
}

// comesTo asks for what a chain of the subject's answers, and that the window stays.
func (s subject) comesTo(t *testing.T, w api.Window, x *chain.Chain, want int) {
	t.Helper()
	v, stands := roomyWindow(w)
	if value, e := x.Run(v); value != want || e != api.OK {
		t.Fatalf("%s on %v: Run answers %d, %d, not %d", shown(s.c), w, value, e, want)
	}
	if !stands() {
		t.Errorf("%s changed the window %v", shown(s.c), w)
	}
}

// tells asks for what all registers come to, and all that runs asks.
func (s subject) tells(t *testing.T, w api.Window, want ...int) {
	t.Helper()
	if list := s.runs(t, w); !slices.Equal(list, want) {
		t.Errorf("%s on %v: the registers come to %v, not %v", shown(s.c), w, list, want)
	}
}

// answers asks for what the register Out comes to, and all that runs asks.
func (s subject) answers(t *testing.T, w api.Window, want int) {
	t.Helper()
	if list := s.runs(t, w); list == nil || list[s.c.Out] != want {
		t.Errorf("%s on %v: the registers come to %v, but the answer is %d", shown(s.c), w, list, want)
	}
}
