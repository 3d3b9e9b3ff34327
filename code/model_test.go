package code_test

import (
	"math/big"
	"slices"
	"testing"

	"damask/api"
	"damask/code"
)

// The model of the package: the chapter's words, told on whole numbers without bounds. Bounds and inputs are those of chapter 3, operators those of chapter 4, costs those of chapter 9, all written anew.

// The ends of the numbers of 32 bits.
const (
	least = -1 << 31
	most  = 1<<31 - 1
)

// asks is what the chapter asks of an operator's instruction.
type asks struct {
	reads     int // how many registers
	low, high int // between what K lies
	shift     int // the greatest S; the least is 0
}

// operators are all of register code, with what is asked of them.
var operators = map[int]asks{
	api.OpNum: {0, least, most, 0}, api.OpIn: {0, 0, 5, 0}, api.OpPlace: {0, 0, 255, 0},
	api.OpNeg: {reads: 1}, api.OpAbs: {reads: 1}, api.OpSgn: {reads: 1},
	api.OpAdd: {reads: 2}, api.OpSub: {reads: 2}, api.OpMul: {reads: 2}, api.OpDiv: {reads: 2}, api.OpMod: {reads: 2}, api.OpShl: {reads: 2}, api.OpShr: {reads: 2}, api.OpAnd: {reads: 2}, api.OpOr: {reads: 2}, api.OpXor: {reads: 2},
	api.OpLt: {reads: 2}, api.OpLe: {reads: 2}, api.OpGt: {reads: 2}, api.OpGe: {reads: 2}, api.OpEq: {reads: 2}, api.OpNe: {reads: 2}, api.OpMin: {reads: 2}, api.OpMax: {reads: 2},
	api.OpClamp: {reads: 3}, api.OpMed: {reads: 3}, api.OpSel: {reads: 3},
	api.OpShlK: {1, 0, 31, 0}, api.OpShrK: {1, 0, 31, 0}, api.OpAndK: {1, 0, most, 0}, api.OpMulK: {1, least, most, 0}, api.OpMulS: {1, 1, 1 << 62, 62},
}

// samples answers the least sample of a kind, the greatest, and the one at the border.
func samples(k api.Kind) (low, high, border int) {
	if k.Form == api.Image {
		return 0, 1<<k.Depth - 1, 1 << (k.Depth - 1)
	}
	return -1 << (k.Depth - 1), 1<<(k.Depth-1) - 1, 0
}

// ends answers the greatest X, Y and C of a form; the least are 0.
func ends(form int) (x, y, c int) {
	if form == api.Image {
		return 4095, 4095, 3
	}
	return 1048575, 0, 3
}

// places answers how many places a form has.
func places(form int) int { return []int{44, 31}[form] }

// mayBe tells whether a kind may be.
func mayBe(k api.Kind) bool {
	return (k.Form == 0 || k.Form == 1) && 1 <= k.Depth && k.Depth <= 16
}

// fits tells whether a window fits a kind that may be.
func fits(k api.Kind, w api.Window) bool {
	x, y, c := ends(k.Form)
	if w.X < 0 || w.X > x || w.Y < 0 || w.Y > y || w.C < 0 || w.C > c || len(w.P) != places(k.Form) {
		return false
	}
	low, high, _ := samples(k)
	return low <= slices.Min(w.P) && slices.Max(w.P) <= high
}

// modelCheck answers what Check must.
func modelCheck(c api.Code) api.Errno {
	if !mayBe(c.Kind) || len(c.Insts) == 0 || len(c.Insts) > 200 || c.Out < 0 || c.Out >= len(c.Insts) {
		return api.ErrCode
	}
	for i, n := range c.Insts {
		a, ok := operators[n.Op]
		if !ok || n.K < a.low || n.K > a.high || n.S < 0 || n.S > a.shift {
			return api.ErrCode
		}
		for part, r := range []int{n.A, n.B, n.C} {
			if part < a.reads && (r < 0 || r >= i) || part >= a.reads && r != 0 {
				return api.ErrCode
			}
		}
	}
	return api.OK
}

// modelArgs answers what Args must.
func modelArgs(n api.Inst) []int {
	switch operators[n.Op].reads {
	case 1:
		return []int{n.A}
	case 2:
		return []int{n.A, n.B}
	case 3:
		return []int{n.A, n.B, n.C}
	}
	return nil
}

// modelCost answers what Cost must.
func modelCost(c api.Code) int {
	sum := len(c.Insts)
	for _, n := range c.Insts {
		sum += map[int]int{api.OpUse: -1, api.OpDiv: 3, api.OpMod: 5}[n.Op]
	}
	return sum
}

// modelUses answers what Uses must: each register is looked for among all that is read.
func modelUses(c api.Code) ([]int, api.Errno) {
	if e := modelCheck(c); e != api.OK {
		return nil, e
	}
	read := []int{c.Out}
	for _, n := range c.Insts {
		read = append(read, modelArgs(n)...)
	}
	var uses []int
	for r := range c.Insts {
		count := 0
		for _, x := range read {
			if x == r {
				count++
			}
		}
		uses = append(uses, count)
	}
	return uses, api.OK
}

// modelValues answers what Values must.
func modelValues(c api.Code, w api.Window) ([]int, api.Errno) {
	if e := modelCheck(c); e != api.OK {
		return nil, e
	}
	if !fits(c.Kind, w) {
		return nil, api.ErrInput
	}
	low, high, border := samples(c.Kind)
	var list []*big.Int
	for _, n := range c.Insts {
		var args []*big.Int
		for _, r := range modelArgs(n) {
			args = append(args, list[r])
		}
		var v *big.Int
		e := api.OK
		switch {
		case n.Op == api.OpNum:
			v = whole(n.K)
		case n.Op == api.OpIn:
			v = whole([]int{w.X, w.Y, w.C, low, high, border}[n.K])
		case n.Op == api.OpPlace && n.K >= places(c.Kind.Form):
			e = api.ErrAhead
		case n.Op == api.OpPlace:
			v = whole(w.P[n.K])
		default:
			v, e = operated(n, args)
		}
		if e != api.OK {
			return nil, e
		}
		list = append(list, v)
	}
	var values []int
	for _, v := range list {
		values = append(values, int(v.Int64()))
	}
	return values, api.OK
}

func whole(x int) *big.Int { return big.NewInt(int64(x)) }

// operated answers what an instruction makes of whole numbers, or the error.
func operated(n api.Inst, args []*big.Int) (*big.Int, api.Errno) {
	var v *big.Int
	e := api.OK
	switch len(args) {
	case 1:
		v, e = ofOne(n, args[0])
	case 2:
		v, e = ofTwo(n.Op, args[0], args[1])
	case 3:
		v = ofThree(n.Op, args[0], args[1], args[2])
	}
	if e != api.OK {
		return nil, e
	}
	if v.Cmp(whole(least)) < 0 || v.Cmp(whole(most)) > 0 {
		return nil, api.ErrOverflow
	}
	return v, api.OK
}

func ofOne(n api.Inst, a *big.Int) (*big.Int, api.Errno) {
	switch n.Op {
	case api.OpNeg:
		return new(big.Int).Neg(a), api.OK
	case api.OpAbs:
		return new(big.Int).Abs(a), api.OK
	case api.OpSgn:
		return whole(a.Sign()), api.OK
	case api.OpMulS:
		v := new(big.Int).Mul(a, whole(n.K))
		if new(big.Int).Abs(v).Cmp(whole(1<<62)) > 0 {
			return nil, api.ErrOverflow
		}
		return v.Rsh(v, uint(n.S)), api.OK
	}
	with := map[int]int{api.OpShlK: api.OpShl, api.OpShrK: api.OpShr, api.OpAndK: api.OpAnd, api.OpMulK: api.OpMul}
	return ofTwo(with[n.Op], a, whole(n.K))
}

func ofTwo(op int, a, b *big.Int) (*big.Int, api.Errno) {
	v := new(big.Int)
	switch op {
	case api.OpAdd:
		return v.Add(a, b), api.OK
	case api.OpSub:
		return v.Sub(a, b), api.OK
	case api.OpMul:
		return v.Mul(a, b), api.OK
	case api.OpDiv, api.OpMod:
		if b.Sign() == 0 {
			return nil, api.ErrDivZero
		}
		if op == api.OpDiv {
			return v.Quo(a, b), api.OK
		}
		return v.Rem(a, b), api.OK
	case api.OpShl, api.OpShr:
		if b.Sign() < 0 || b.Cmp(whole(31)) > 0 {
			return nil, api.ErrOverflow
		}
		if op == api.OpShl {
			return v.Lsh(a, uint(b.Int64())), api.OK
		}
		return v.Rsh(a, uint(b.Int64())), api.OK
	case api.OpAnd:
		return v.And(a, b), api.OK
	case api.OpOr:
		return v.Or(a, b), api.OK
	case api.OpXor:
		return v.Xor(a, b), api.OK
	case api.OpMin:
		return slices.MinFunc([]*big.Int{a, b}, (*big.Int).Cmp), api.OK
	case api.OpMax:
		return slices.MaxFunc([]*big.Int{a, b}, (*big.Int).Cmp), api.OK
	}
	order := a.Cmp(b)
	if map[int]bool{api.OpLt: order < 0, api.OpLe: order <= 0, api.OpGt: order > 0, api.OpGe: order >= 0, api.OpEq: order == 0, api.OpNe: order != 0}[op] {
		return whole(1), api.OK
	}
	return whole(0), api.OK
}

func ofThree(op int, a, b, c *big.Int) *big.Int {
	list := []*big.Int{a, b, c}
	switch op {
	case api.OpClamp:
		return slices.MinFunc([]*big.Int{c, slices.MaxFunc(list[:2], (*big.Int).Cmp)}, (*big.Int).Cmp)
	case api.OpMed:
		slices.SortFunc(list, (*big.Int).Cmp)
		return list[1]
	}
	if a.Sign() != 0 {
		return b
	}
	return c
}

// Codes.

func num(k int) api.Inst   { return api.Inst{Op: api.OpNum, K: k} }
func in(k int) api.Inst    { return api.Inst{Op: api.OpIn, K: k} }
func place(k int) api.Inst { return api.Inst{Op: api.OpPlace, K: k} }

// of answers an instruction that reads so many registers.
func of(op int, registers ...int) api.Inst {
	n := api.Inst{Op: op}
	for i, to := range []*int{&n.A, &n.B, &n.C}[:len(registers)] {
		*to = registers[i]
	}
	return n
}

// with answers an instruction that reads a register, with constants.
func with(op, register, k, s int) api.Inst { return api.Inst{Op: op, A: register, K: k, S: s} }

// coded answers a code of {Image, 8} that answers its last register.
func coded(list ...api.Inst) api.Code {
	return api.Code{Kind: image, Insts: list, Out: len(list) - 1}
}

// noughts answers so many instructions that come to 0.
func noughts(count int) []api.Inst { return slices.Repeat([]api.Inst{num(0)}, count) }

// plain answers an instruction that may be as the number i, if i is above 0: it reads the register just ahead of it.
func plain(op, i int) api.Inst {
	a := operators[op]
	n := of(op, []int{i - 1, i - 1, i - 1}[:a.reads]...)
	n.K = max(a.low, 0)
	return n
}

// copied answers a code that shares no memory with another.
func copied(c api.Code) api.Code {
	c.Insts = slices.Clone(c.Insts)
	return c
}

// Windows.

// windowOf answers a window of a kind: of the lowest numbers, of the highest, of both in turn, else a mixture.
func windowOf(k api.Kind, seed uint) api.Window {
	next := draw(seed)
	turn := 0
	from := func(low, high int) int {
		turn++
		switch {
		case seed == 0, seed == 2 && turn%2 == 0:
			return low
		case seed <= 2:
			return high
		case next(3) == 0:
			return []int{low, high}[next(2)]
		}
		return low + next(high-low+1)
	}
	x, y, c := ends(k.Form)
	w := api.Window{X: from(0, x), Y: from(0, y), C: from(0, c)}
	low, high, _ := samples(k)
	for range places(k.Form) {
		w.P = append(w.P, from(low, high))
	}
	return w
}

// draw answers numbers below n, by a walk that a seed sets.
func draw(seed uint) func(n int) int {
	return func(n int) int {
		seed += 0x9e3779b97f4a7c15
		z := (seed ^ seed>>30) * 0xbf58476d1ce4e5b9
		z = (z ^ z>>27) * 0x94d049bb133111eb
		return int(z>>33) % n
	}
}

// What is asked of the calls.

// roomy answers a code whose list has spare room, filled with marks, and a function that tells whether all of it still stands.
func roomy(c api.Code) (api.Code, func() bool) {
	spare := []api.Inst{{Op: -7, A: -7}, {Op: -7, K: -7}}
	list := slices.Concat(c.Insts, spare)
	d := api.Code{Kind: c.Kind, Insts: list[:len(c.Insts)], Out: c.Out}
	was := slices.Clone(list)
	return d, func() bool { return slices.Equal(list, was) }
}

// roomyWindow does the same for a window.
func roomyWindow(w api.Window) (api.Window, func() bool) {
	p := slices.Concat(w.P, []int{-77777, -77777})
	was := slices.Clone(p)
	return api.Window{X: w.X, Y: w.Y, C: w.C, P: p[:len(w.P)]}, func() bool { return slices.Equal(p, was) }
}

// modelled holds all calls on any code and window against the model, and answers what Values told.
func modelled(t *testing.T, c api.Code, w api.Window) ([]int, api.Errno) {
	t.Helper()
	d, codeStands := roomy(c)
	v, windowStands := roomyWindow(w)
	if e, f := code.Check(d), modelCheck(c); e != f {
		t.Errorf("Check(%s) = %d, not %d", shown(c), e, f)
	}
	if got, want := code.Cost(d), modelCost(c); got != want {
		t.Errorf("Cost(%s) = %d, not %d", shown(c), got, want)
	}
	for _, n := range d.Insts {
		if got, want := code.Args(n), modelArgs(n); !slices.Equal(got, want) {
			t.Errorf("Args(%v) = %v, not %v", n, got, want)
		}
	}
	uses, e := code.Uses(d)
	if want, f := modelUses(c); e != f || !slices.Equal(uses, want) {
		t.Errorf("Uses(%s) = %v, %d, not %v, %d", shown(c), uses, e, want, f)
	}
	if !code.Same(c, d) || !code.Same(d, c) {
		t.Errorf("%s isn't the same as its copy", shown(c))
	}
	got, e := code.Values(d, v)
	if want, f := modelValues(c, w); e != f || !slices.Equal(got, want) {
		t.Errorf("Values(%s, %v) = %v, %d, not %v, %d", shown(c), w, got, e, want, f)
	}
	if !codeStands() || !windowStands() {
		t.Errorf("the code %s or the window %v was changed", shown(c), w)
	}
	return got, e
}

// taken asks whether a code may be.
func taken(t *testing.T, c api.Code) {
	t.Helper()
	if e := code.Check(c); e != api.OK {
		t.Errorf("Check(%s) = %d, but it may be", shown(c), e)
	}
	modelled(t, c, windowOf(c.Kind, 3))
}

// refused asks for Check's error of all calls that have one, with windows that fit some kind, and with one that fits none.
func refused(t *testing.T, c api.Code) {
	t.Helper()
	if e := code.Check(c); e != api.ErrCode {
		t.Errorf("Check(%s) = %d, but it may not be", shown(c), e)
	}
	for _, w := range []api.Window{windowOf(image, 0), windowOf(sound, 0), {X: -1}} {
		if got, e := modelled(t, c, w); len(got) != 0 || e != api.ErrCode {
			t.Errorf("Values(%s, %v) = %v, %d, but it may not be", shown(c), w, got, e)
		}
	}
	if got, e := code.Uses(c); len(got) != 0 || e != api.ErrCode {
		t.Errorf("Uses(%s) = %v, %d, but it may not be", shown(c), got, e)
	}
}

// tells asks for what all registers come to, and all that modelled asks.
func tells(t *testing.T, c api.Code, w api.Window, want ...int) {
	t.Helper()
	if got, e := modelled(t, c, w); e != api.OK || !slices.Equal(got, want) {
		t.Errorf("Values(%s, %v) = %v, %d, not %v", shown(c), w, got, e, want)
	}
}

// fails asks for an error of Values, and all that modelled asks.
func fails(t *testing.T, c api.Code, w api.Window, want api.Errno) {
	t.Helper()
	if got, e := modelled(t, c, w); e != want || len(got) != 0 {
		t.Errorf("Values(%s, %v) = %v, %d, not the error %d", shown(c), w, got, e, want)
	}
}
