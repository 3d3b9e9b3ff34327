package verify_test

import (
	"fmt"
	"math/big"
	"slices"
	"strings"
	"testing"

	"damask/api"
	"damask/code"
	"damask/span"
	"damask/verify"
)

// The model of Verify: the chapter's words, told on whole numbers without bounds. Which codes may be is told by chapter 11's words, the spans by chapter 5's, bounds and inputs by chapter 3's, costs by chapter 9's, all written anew.

// The ends of the numbers of 32 bits.
const (
	least = -1 << 31
	most  = 1<<31 - 1
)

// asks is what chapter 11 asks of an operator's instruction.
type asks struct {
	reads     int // how many registers
	low, high int // between what K lies
	shift     int // the greatest S; the least is 0
}

// operators are all of register code, with what is asked of them.
var operators = map[int]asks{
	api.OpNum: {0, least, most, 0}, api.OpIn: {0, 0, 5, 0}, api.OpPlace: {0, 0, 255, 0},
	api.OpNeg: {reads: 1}, api.OpAbs: {reads: 1}, api.OpSgn: {reads: 1},
	api.OpAdd: {reads: 2}, api.OpSub: {reads: 2}, api.OpMul: {reads: 2}, api.OpDiv: {reads: 2}, api.OpMod: {reads: 2}, api.OpShl: {reads: 2}, api.OpShr: {reads: 2}, api.OpAnd: {reads: 2}, api.OpOr: {reads: 2}, api.OpXor: {reads: 2},
	api.OpLt: {reads: 2}, api.OpLe: {reads: 2}, api.OpGt: {reads: 2}, api.OpGe: {reads: 2}, api.OpEq: {reads: 2}, api.OpNe: {reads: 2}, api.OpMin: {reads: 2}, api.OpMax: {reads: 2},
	api.OpClamp: {reads: 3}, api.OpMed: {reads: 3}, api.OpSel: {reads: 3},
	api.OpShlK: {1, 0, 31, 0}, api.OpShrK: {1, 0, 31, 0}, api.OpAndK: {1, 0, most, 0}, api.OpMulK: {1, least, most, 0}, api.OpMulS: {1, 1, 1 << 62, 62},
}

// only answers the span of one number.
func only(x int) api.Span { return api.Span{Lo: x, Hi: x} }

// samples answers the span of a kind's samples, and the one at the border.
func samples(k api.Kind) (s api.Span, border int) {
	if k.Form == api.Image {
		return api.Span{Lo: 0, Hi: 1<<k.Depth - 1}, 1 << (k.Depth - 1)
	}
	return api.Span{Lo: -1 << (k.Depth - 1), Hi: 1<<(k.Depth-1) - 1}, 0
}

// inputs answers the spans of a kind's inputs.
func inputs(k api.Kind) []api.Span {
	s, border := samples(k)
	x, y := api.Span{Hi: 4095}, api.Span{Hi: 4095}
	if k.Form == api.Sound {
		x, y = api.Span{Hi: 1048575}, api.Span{}
	}
	return []api.Span{x, y, {Hi: 3}, only(s.Lo), only(s.Hi), only(border)}
}

// places answers how many places a form has.
func places(form int) int { return []int{44, 31}[form] }

// mayBe tells whether a kind may be.
func mayBe(k api.Kind) bool {
	return (k.Form == 0 || k.Form == 1) && 1 <= k.Depth && k.Depth <= 16
}

// registers answers what an instruction reads.
func registers(n api.Inst) []int { return []int{n.A, n.B, n.C}[:operators[n.Op].reads] }

// isCode tells whether a code may be.
func isCode(c api.Code) bool {
	if !mayBe(c.Kind) || len(c.Insts) == 0 || len(c.Insts) > 200 || c.Out < 0 || c.Out >= len(c.Insts) {
		return false
	}
	for i, n := range c.Insts {
		a, ok := operators[n.Op]
		if !ok || n.K < a.low || n.K > a.high || n.S < 0 || n.S > a.shift {
			return false
		}
		for part, r := range []int{n.A, n.B, n.C} {
			if part < a.reads && (r < 0 || r >= i) || part >= a.reads && r != 0 {
				return false
			}
		}
	}
	return true
}

// cost answers what an operator of register code costs.
func cost(op int) int {
	switch op {
	case api.OpDiv:
		return 4
	case api.OpMod:
		return 6
	}
	return 1
}

// model answers what Verify must.
func model(c api.Code) (api.Report, api.Errno) {
	if !isCode(c) {
		return api.Report{}, api.ErrCode
	}
	for _, n := range c.Insts {
		if n.Op == api.OpPlace && n.K >= places(c.Kind.Form) {
			return api.Report{}, api.ErrAhead
		}
	}
	var r api.Report
	for _, n := range c.Insts {
		s, e := modelSpan(c.Kind, n, r.Spans)
		if e != api.OK {
			return api.Report{}, e
		}
		r.Spans = append(r.Spans, s)
		r.Cost += cost(n.Op)
	}
	if r.Cost > 200 {
		return api.Report{}, api.ErrCost
	}
	return r, api.OK
}

func modelSpan(k api.Kind, n api.Inst, spans []api.Span) (api.Span, api.Errno) {
	switch n.Op {
	case api.OpNum:
		return only(n.K), api.OK
	case api.OpIn:
		return inputs(k)[n.K], api.OK
	case api.OpPlace:
		s, _ := samples(k)
		return s, api.OK
	}
	var args []wide
	for _, r := range registers(n) {
		args = append(args, widened(spans[r]))
	}
	s, e := spanOf(n, args)
	switch {
	case e != api.OK:
		return api.Span{}, e
	case s.lo.Cmp(whole(least)) < 0 || s.hi.Cmp(whole(most)) > 0:
		return api.Span{}, api.ErrOverflow
	}
	return api.Span{Lo: int(s.lo.Int64()), Hi: int(s.hi.Int64())}, api.OK
}

// wide is a span of whole numbers without bounds.
type wide struct{ lo, hi *big.Int }

func whole(x int) *big.Int             { return big.NewInt(int64(x)) }
func widened(s api.Span) wide          { return wide{whole(s.Lo), whole(s.Hi)} }
func negated(x *big.Int) *big.Int      { return new(big.Int).Neg(x) }
func smallest(xs ...*big.Int) *big.Int { return slices.MinFunc(xs, (*big.Int).Cmp) }
func greatest(xs ...*big.Int) *big.Int { return slices.MaxFunc(xs, (*big.Int).Cmp) }

// around answers the span from the least to the greatest of the numbers.
func around(xs ...*big.Int) wide { return wide{smallest(xs...), greatest(xs...)} }

func (a wide) has(x int) bool { return a.lo.Cmp(whole(x)) <= 0 && a.hi.Cmp(whole(x)) >= 0 }
func (a wide) below() bool    { return a.lo.Sign() < 0 }

// within tells whether another span has all of this one.
func (a wide) within(b wide) bool { return b.lo.Cmp(a.lo) <= 0 && b.hi.Cmp(a.hi) >= 0 }

// spanOf answers the span of an operator, by the table of chapter 5.
func spanOf(n api.Inst, args []wide) (wide, api.Errno) {
	switch len(args) {
	case 1:
		return ofOne(n, args[0])
	case 2:
		return ofTwo(n.Op, args[0], args[1])
	}
	a, b, c := args[0], args[1], args[2]
	switch {
	case n.Op == api.OpClamp:
		return wide{clamped(a.lo, b.lo, c.lo), clamped(a.hi, b.hi, c.hi)}, api.OK
	case n.Op == api.OpMed:
		return wide{middle(a.lo, b.lo, c.lo), middle(a.hi, b.hi, c.hi)}, api.OK
	case !a.has(0):
		return b, api.OK
	case a.lo.Sign() == 0 && a.hi.Sign() == 0:
		return c, api.OK
	}
	return around(b.lo, b.hi, c.lo, c.hi), api.OK
}

func clamped(a, b, c *big.Int) *big.Int {
	return smallest(c, greatest(a, b))
}

func middle(list ...*big.Int) *big.Int {
	slices.SortFunc(list, (*big.Int).Cmp)
	return list[1]
}

func ofOne(n api.Inst, a wide) (wide, api.Errno) {
	switch n.Op {
	case api.OpNeg:
		return wide{negated(a.hi), negated(a.lo)}, api.OK
	case api.OpAbs:
		switch {
		case !a.below():
			return a, api.OK
		case a.has(0):
			return wide{whole(0), greatest(negated(a.lo), a.hi)}, api.OK
		}
		return wide{negated(a.hi), negated(a.lo)}, api.OK
	case api.OpSgn:
		return wide{whole(a.lo.Sign()), whole(a.hi.Sign())}, api.OK
	case api.OpMulS:
		var list []*big.Int
		for _, x := range []*big.Int{a.lo, a.hi} {
			x = new(big.Int).Mul(x, whole(n.K))
			if new(big.Int).Abs(x).Cmp(whole(1<<62)) > 0 {
				return wide{}, api.ErrOverflow
			}
			list = append(list, x.Rsh(x, uint(n.S)))
		}
		return wide{list[0], list[1]}, api.OK
	}
	with := map[int]int{api.OpShlK: api.OpShl, api.OpShrK: api.OpShr, api.OpAndK: api.OpAnd, api.OpMulK: api.OpMul}
	return ofTwo(with[n.Op], a, widened(only(n.K)))
}

func ofTwo(op int, a, b wide) (wide, api.Errno) {
	switch op {
	case api.OpAdd:
		return wide{new(big.Int).Add(a.lo, b.lo), new(big.Int).Add(a.hi, b.hi)}, api.OK
	case api.OpSub:
		return wide{new(big.Int).Sub(a.lo, b.hi), new(big.Int).Sub(a.hi, b.lo)}, api.OK
	case api.OpMul:
		return corners(a, b, func(x, y *big.Int) *big.Int { return new(big.Int).Mul(x, y) }), api.OK
	case api.OpDiv, api.OpMod:
		if b.has(0) {
			return wide{}, api.ErrDivZero
		}
		if op == api.OpMod {
			return remainders(a, b), api.OK
		}
		return corners(a, b, func(x, y *big.Int) *big.Int { return new(big.Int).Quo(x, y) }), api.OK
	case api.OpShl, api.OpShr:
		if b.below() || b.hi.Cmp(whole(31)) > 0 {
			return wide{}, api.ErrOverflow
		}
		if op == api.OpShl {
			return corners(a, b, func(x, y *big.Int) *big.Int { return new(big.Int).Lsh(x, uint(y.Int64())) }), api.OK
		}
		return corners(a, b, func(x, y *big.Int) *big.Int { return new(big.Int).Rsh(x, uint(y.Int64())) }), api.OK
	case api.OpAnd, api.OpOr, api.OpXor:
		return bitByBit(op, a, b), api.OK
	case api.OpMin:
		return wide{smallest(a.lo, b.lo), smallest(a.hi, b.hi)}, api.OK
	case api.OpMax:
		return wide{greatest(a.lo, b.lo), greatest(a.hi, b.hi)}, api.OK
	}
	return compared(op, a, b), api.OK
}

// corners answers from the least to the greatest of what is made of an end of a and an end of b.
func corners(a, b wide, made func(x, y *big.Int) *big.Int) wide {
	return around(made(a.lo, b.lo), made(a.lo, b.hi), made(a.hi, b.lo), made(a.hi, b.hi))
}

func remainders(a, b wide) wide {
	m := greatest(new(big.Int).Abs(b.lo), new(big.Int).Abs(b.hi))
	m = new(big.Int).Sub(m, whole(1))
	r := widened(api.Span{})
	if a.below() {
		r.lo = greatest(a.lo, negated(m))
	}
	if a.hi.Sign() > 0 {
		r.hi = smallest(a.hi, m)
	}
	return r
}

func bitByBit(op int, a, b wide) wide {
	all := widened(api.Span{Lo: -1})
	for n := 1; !a.within(all) || !b.within(all); n++ {
		all = widened(api.Span{Lo: -1 << n, Hi: 1<<n - 1})
	}
	switch {
	case op == api.OpAnd && a.below() && b.below():
		return all
	case op == api.OpAnd && a.below():
		return wide{whole(0), b.hi}
	case op == api.OpAnd && b.below():
		return wide{whole(0), a.hi}
	case op == api.OpAnd:
		return wide{whole(0), smallest(a.hi, b.hi)}
	case a.below() || b.below():
		return all
	case op == api.OpOr:
		return wide{greatest(a.lo, b.lo), all.hi}
	}
	return wide{whole(0), all.hi}
}

// compared answers which of 0 and 1 a comparison may come to.
func compared(op int, a, b wide) wide {
	less, equal, above := a.lo.Cmp(b.hi) < 0, a.lo.Cmp(b.hi) <= 0 && b.lo.Cmp(a.hi) <= 0, a.hi.Cmp(b.lo) > 0
	var so, not bool
	switch op {
	case api.OpLt:
		so, not = less, equal || above
	case api.OpLe:
		so, not = less || equal, above
	case api.OpGt:
		so, not = above, less || equal
	case api.OpGe:
		so, not = above || equal, less
	case api.OpEq:
		so, not = equal, less || above
	case api.OpNe:
		so, not = less || above, equal
	}
	switch {
	case so && not:
		return widened(api.Span{Hi: 1})
	case so:
		return widened(only(1))
	}
	return widened(only(0))
}

// Codes.

func num(k int) api.Inst   { return api.Inst{Op: api.OpNum, K: k} }
func in(k int) api.Inst    { return api.Inst{Op: api.OpIn, K: k} }
func place(k int) api.Inst { return api.Inst{Op: api.OpPlace, K: k} }

// of answers an instruction that reads so many registers.
func of(op int, registers ...int) api.Inst {
	n := api.Inst{Op: op}
	for i, to := range []*int{&n.A, &n.B, &n.C}[:len(registers)] {
		*to = registers[i]
	}
	return n
}

// with answers an instruction that reads a register, with constants.
func with(op, register, k, s int) api.Inst { return api.Inst{Op: op, A: register, K: k, S: s} }

// coded answers a code of {Image, 8} that answers its last register.
func coded(list ...api.Inst) api.Code { return codedFor(image, list...) }

func codedFor(k api.Kind, list ...api.Inst) api.Code {
	return api.Code{Kind: k, Insts: list, Out: len(list) - 1}
}

// noughts answers so many instructions that come to 0.
func noughts(count int) []api.Inst { return slices.Repeat([]api.Inst{num(0)}, count) }

// plain answers an instruction that may be as the number i, if i is above 0: it reads the register just ahead of it.
func plain(op, i int) api.Inst {
	a := operators[op]
	n := of(op, []int{i - 1, i - 1, i - 1}[:a.reads]...)
	n.K = max(a.low, 0)
	return n
}

// Windows.

// windowOf answers a window of a kind: of the lowest numbers, of the highest, of both in turn, else a mixture.
func windowOf(k api.Kind, seed uint) api.Window {
	next := draw(seed)
	turn := 0
	from := func(s api.Span) int {
		turn++
		switch {
		case seed == 0, seed == 2 && turn%2 == 0:
			return s.Lo
		case seed <= 2:
			return s.Hi
		case next(3) == 0:
			return []int{s.Lo, s.Hi}[next(2)]
		}
		return s.Lo + next(s.Hi-s.Lo+1)
	}
	list := inputs(k)
	w := api.Window{X: from(list[api.InX]), Y: from(list[api.InY]), C: from(list[api.InC])}
	s, _ := samples(k)
	for range places(k.Form) {
		w.P = append(w.P, from(s))
	}
	return w
}

// windows are how many windows each code that is taken is run on.
const windows = 7

// draw answers numbers below n, by a walk that a seed sets.
func draw(seed uint) func(n int) int {
	return func(n int) int {
		seed += 0x9e3779b97f4a7c15
		z := (seed ^ seed>>30) * 0xbf58476d1ce4e5b9
		z = (z ^ z>>27) * 0x94d049bb133111eb
		return int(z>>33) % n
	}
}

// What is asked of Verify.

// shown answers a code as a text: its first instructions, if it has many.
func shown(c api.Code) string {
	return fmt.Sprintf("%v %d insts %v out %d", c.Kind, len(c.Insts), c.Insts[:min(len(c.Insts), 40)], c.Out)
}

// roomy answers a code whose list has spare room, filled with marks, and a function that tells whether all of it still stands.
func roomy(c api.Code) (api.Code, func() bool) {
	spare := []api.Inst{{Op: -7, A: -7}, {Op: -7, K: -7}}
	list := slices.Concat(c.Insts, spare)
	was := slices.Clone(list)
	return api.Code{Kind: c.Kind, Insts: list[:len(c.Insts)], Out: c.Out}, func() bool { return slices.Equal(list, was) }
}

// same tells whether two reports are alike.
func same(a, b api.Report) bool {
	return slices.Equal(a.Spans, b.Spans) && a.Cost == b.Cost && a.Depth == b.Depth
}

// modelled holds Verify of any code against the model, and asks all that holds of what is taken.
func modelled(t *testing.T, c api.Code) (api.Report, api.Errno) {
	t.Helper()
	d, stands := roomy(c)
	got, e := verify.Verify(d)
	want, f := model(c)
	if e != f || !same(got, want) {
		t.Errorf("Verify(%s) = %v, %d, not %v, %d", shown(c), got, e, want, f)
		return got, e
	}
	if !stands() {
		t.Errorf("Verify(%s) changed its code", shown(c))
	}
	if e == api.OK {
		for seed := range uint(windows) {
			harmless(t, c, got, windowOf(c.Kind, seed))
		}
	}
	return got, e
}

// harmless asks 13.2 of a code that is taken: it answers on the window, each register lies in its span, and there are no more instructions than the cost says.
func harmless(t *testing.T, c api.Code, r api.Report, w api.Window) {
	t.Helper()
	values, e := code.Values(c, w)
	if e != api.OK || len(values) != len(c.Insts) || len(r.Spans) != len(c.Insts) || len(c.Insts) > r.Cost || r.Cost > 200 {
		t.Errorf("%s is taken, but on %v it answers %d; it has %d spans and costs %d", shown(c), w, e, len(r.Spans), r.Cost)
		return
	}
	for i, x := range values {
		if !span.Has(r.Spans[i], x) || !span.Whole(r.Spans[i]) {
			t.Errorf("%s on %v: the register %d comes to %d, which isn't in %v", shown(c), w, i, x, r.Spans[i])
		}
	}
}

// taken asks for the whole report, its spans written as in spansIn, and all that modelled asks.
func taken(t *testing.T, c api.Code, cost int, spans string) {
	t.Helper()
	want := api.Report{Spans: spansIn(t, spans), Cost: cost}
	if got, e := modelled(t, c); e != api.OK || !same(got, want) {
		t.Errorf("Verify(%s) = %v, %d, not %v", shown(c), got, e, want)
	}
}

// refused asks for an error with the zero report beside it, and all that modelled asks.
func refused(t *testing.T, c api.Code, want api.Errno) {
	t.Helper()
	got, e := modelled(t, c)
	if e != want || len(got.Spans) != 0 || got.Cost != 0 || got.Depth != 0 {
		t.Errorf("Verify(%s) = %v, %d, not the error %d and the zero report", shown(c), got, e, want)
	}
}

// spansIn reads spans as they are written in the tests: 3 is 3 alone, 0:255 is 0 to 255, and least and most stand for the ends of 32 bits.
func spansIn(t *testing.T, text string) []api.Span {
	t.Helper()
	text = strings.NewReplacer("least", fmt.Sprint(least), "most", fmt.Sprint(most)).Replace(text)
	var list []api.Span
	for _, word := range strings.Fields(text) {
		low, high, two := strings.Cut(word, ":")
		if !two {
			high = low
		}
		var s api.Span
		if _, e := fmt.Sscan(low+" "+high, &s.Lo, &s.Hi); e != nil {
			t.Fatalf("%q: %v", word, e)
		}
		list = append(list, s)
	}
	return list
}
