package code_test

import (
	"fmt"
	"maps"
	"math"
	"slices"
	"testing"

	"damask/api"
	"damask/arith"
	"damask/check"
	"damask/code"
	"damask/kind"
)

var (
	image = api.Kind{Form: api.Image, Depth: 8}
	sound = api.Kind{Form: api.Sound, Depth: 16}
)

// all are the operators of register code, in one order.
var all = slices.Sorted(maps.Keys(operators))

// far are numbers far from all that may stand in a code.
var far = []int{math.MinInt, math.MinInt + 1, -1 << 62, -1 << 32, least - 1, 1 << 32, 1<<32 + 1, 1<<62 + 1, math.MaxInt - 1, math.MaxInt}

// shown answers a code as a text: its first instructions, if it has many.
func shown(c api.Code) string {
	return fmt.Sprintf("%v %d insts %v out %d", c.Kind, len(c.Insts), c.Insts[:min(len(c.Insts), 8)], c.Out)
}

// kinds goes over all kinds that may be.
func kinds(do func(k api.Kind)) {
	for form := range 2 {
		for depth := 1; depth <= 16; depth++ {
			do(api.Kind{Form: form, Depth: depth})
		}
	}
}

// The chapter's examples

// example answers the window of the chapter's examples.
func example() api.Window {
	w := api.Window{X: 3, P: make([]int, 44)}
	w.P[16] = 9
	return w
}

// first answers the code of the chapter's first example.
func first() api.Code {
	c := coded(place(16), in(api.InX), of(api.OpSub, 1, 0), with(api.OpShrK, 2, 1, 0), with(api.OpMulS, 0, 1431655766, 32))
	c.Out = 3
	return c
}

func TestExamples(t *testing.T) {
	tells(t, first(), example(), 9, 3, -6, -3, 3)
	if n := code.Cost(first()); n != 5 {
		t.Errorf("Cost: %d", n)
	}
	if list, e := code.Uses(first()); e != api.OK || !slices.Equal(list, []int{2, 1, 1, 1, 0}) {
		t.Errorf("Uses: %v, %d", list, e)
	}
	taken(t, coded(place(44)))
	fails(t, coded(place(44)), example(), api.ErrAhead)
	fails(t, coded(num(0), of(api.OpMod, 0, 0)), example(), api.ErrDivZero)
	refused(t, coded(of(api.OpNeg, 0)))
	refused(t, coded(api.Inst{Op: api.OpNum, S: 1}))
	refused(t, coded(of(api.OpUse)))
	refused(t, coded(noughts(201)...))
}

// 11.1

func TestKindsThatMayNotBe(t *testing.T) {
	odd := []int{math.MinInt, -1 << 32, -17, -16, -8, -1, 0, 1, 2, 3, 8, 16, 17, 18, 256, 1 << 32, 1<<32 + 1, 1<<32 + 8, math.MaxInt}
	count := 0
	for _, form := range odd {
		for _, depth := range odd {
			for _, c := range []api.Code{first(), coded(num(1)), coded(in(3)), coded(place(0))} {
				c.Kind = api.Kind{Form: form, Depth: depth}
				if mayBe(c.Kind) {
					taken(t, c)
					count++
					continue
				}
				refused(t, c)
			}
		}
	}
	if count != 2*5*4 {
		t.Errorf("%d codes may be", count)
	}
	kinds(func(k api.Kind) {
		c := first()
		c.Kind = k
		taken(t, c)
	})
}

func TestHowManyInstructions(t *testing.T) {
	for count := 1; count <= api.MaxCost; count++ {
		taken(t, coded(noughts(count)...))
	}
	for _, count := range []int{201, 202, 255, 256, 257, 1000, 1 << 16} {
		for _, out := range []int{0, 1, 199, 200, count - 1} {
			refused(t, api.Code{Kind: image, Insts: noughts(count), Out: out})
		}
	}
	for _, list := range [][]api.Inst{nil, {}} {
		for _, out := range []int{-1, 0, 1} {
			refused(t, api.Code{Kind: image, Insts: list, Out: out})
		}
	}
}

func TestOut(t *testing.T) {
	for _, count := range []int{1, 2, 3, 100, 199, 200} {
		for out := range count {
			taken(t, api.Code{Kind: image, Insts: noughts(count), Out: out})
		}
		for _, out := range append([]int{-2, -1, count, count + 1, 1 << 31, least, 1<<32 + 1}, far...) {
			refused(t, api.Code{Kind: image, Insts: noughts(count), Out: out})
		}
	}
	// Also where Out is a register's number in the code's spare room.
	refused(t, api.Code{Kind: image, Insts: noughts(5)[:3], Out: 3})
}

func TestOps(t *testing.T) {
	may := 0
	for op := -300; op <= 300; op++ {
		if _, ok := operators[op]; ok {
			may++
			taken(t, coded(num(1), plain(op, 1)))
			continue
		}
		for i := range 3 {
			list := noughts(3)
			list[i] = of(op)
			refused(t, coded(list...))
		}
	}
	if may != 32 || len(operators) != 32 {
		t.Errorf("%d operators may be, %d are asked", may, len(operators))
	}
	for _, op := range append([]int{-1 << 31, 1<<31 + api.OpAdd, 1<<32 + api.OpNum, 1<<32 + api.OpNeg, -1<<32 + api.OpNum}, far...) {
		refused(t, coded(num(1), of(op)))
		refused(t, coded(of(op)))
	}
	for op := range 40 {
		if a, ok := operators[op]; ok && a.reads != arith.Arity(op) || !ok && arith.Arity(op) >= 0 {
			t.Errorf("the tests' operator %d isn't layer 4's", op)
		}
	}
}

func TestRegisters(t *testing.T) {
	for _, op := range all {
		reads := operators[op].reads
		for _, i := range []int{0, 1, 2, 3, 7} {
			list := append(noughts(i), plain(op, i))
			list = append(list, noughts(3)...)
			if reads > 0 && i == 0 {
				// Nothing is ahead of the first instruction.
				for r := range 3 {
					list[0] = of(op, []int{r, r, r}[:reads]...)
					list[0].K = plain(op, 0).K
					refused(t, coded(list...))
				}
				continue
			}
			for part := range 3 {
				c := coded(slices.Clone(list)...)
				n := &c.Insts[i]
				field := []*int{&n.A, &n.B, &n.C}[part]
				for r := range i {
					*field = r
					if part < reads || r == 0 {
						taken(t, c)
					} else {
						refused(t, c)
					}
				}
				for _, r := range append([]int{-2, -1, i, i + 1, i + 2, i + 3, i + 4, 255, 256, 1 << 31}, far...) {
					*field = r
					if r == 0 {
						taken(t, c)
					} else {
						refused(t, c)
					}
				}
			}
		}
	}
}

// The registers of the last instruction of a code as long as may be.
func TestRegistersFarAhead(t *testing.T) {
	for _, op := range all {
		list := noughts(199)
		for r := range 199 {
			n := plain(op, 1)
			for _, field := range []*int{&n.A, &n.B, &n.C}[:operators[op].reads] {
				*field = r
			}
			taken(t, coded(append(list, n)...))
		}
		if operators[op].reads > 0 {
			n := plain(op, 200)
			refused(t, coded(append(list, n)...))
		}
	}
}

func TestConstants(t *testing.T) {
	for _, op := range all {
		a := operators[op]
		c := coded(num(1), plain(op, 1), num(2))
		n := &c.Insts[1]
		shifts := []int{0, a.shift / 2, a.shift}
		for _, n.S = range shifts {
			for _, n.K = range []int{a.low, a.low/2 + a.high/2, a.high} {
				taken(t, c)
			}
			if a.high > a.low {
				for _, n.K = range []int{a.low + 1, a.high - 1} {
					taken(t, c)
				}
			}
			for _, n.K = range []int{a.low - 2, a.low - 1, a.high + 1, a.high + 2, math.MinInt, math.MaxInt, -1<<32 + a.low, -1 << 62} {
				refused(t, c)
			}
		}
		for _, n.K = range []int{a.low, a.high} {
			for _, n.S = range []int{math.MinInt, least, -64, -2, -1, a.shift + 1, a.shift + 2, 64, 1 << 31, 1 << 32, 1<<32 + a.shift, 1 << 62, math.MaxInt} {
				refused(t, c)
			}
		}
	}
}

// What each operator's constants may be, number by number.
func TestConstantsByHand(t *testing.T) {
	for _, n := range []api.Inst{
		{Op: api.OpNum}, {Op: api.OpNum, K: -1}, {Op: api.OpNum, K: -2147483648}, {Op: api.OpNum, K: 2147483647},
		{Op: api.OpIn}, {Op: api.OpIn, K: 5}, {Op: api.OpPlace}, {Op: api.OpPlace, K: 43}, {Op: api.OpPlace, K: 44}, {Op: api.OpPlace, K: 255},
		{Op: api.OpShlK}, {Op: api.OpShlK, K: 31}, {Op: api.OpShrK}, {Op: api.OpShrK, K: 31}, {Op: api.OpAndK}, {Op: api.OpAndK, K: 2147483647},
		{Op: api.OpMulK}, {Op: api.OpMulK, K: -2147483648}, {Op: api.OpMulK, K: 2147483647},
		{Op: api.OpMulS, K: 1}, {Op: api.OpMulS, K: 1, S: 62}, {Op: api.OpMulS, K: 1 << 62}, {Op: api.OpMulS, K: 1 << 62, S: 62},
		{Op: api.OpNeg}, {Op: api.OpAdd}, {Op: api.OpSel},
	} {
		taken(t, coded(num(1), n))
	}
	for _, n := range []api.Inst{
		{Op: api.OpNum, K: -2147483649}, {Op: api.OpNum, K: 2147483648}, {Op: api.OpNum, S: 1}, {Op: api.OpNum, S: -1},
		{Op: api.OpIn, K: -1}, {Op: api.OpIn, K: 6}, {Op: api.OpIn, S: 1}, {Op: api.OpPlace, K: -1}, {Op: api.OpPlace, K: 256}, {Op: api.OpPlace, S: 1},
		{Op: api.OpShlK, K: -1}, {Op: api.OpShlK, K: 32}, {Op: api.OpShlK, S: 1}, {Op: api.OpShrK, K: -1}, {Op: api.OpShrK, K: 32}, {Op: api.OpShrK, S: 1},
		{Op: api.OpAndK, K: -1}, {Op: api.OpAndK, K: 2147483648}, {Op: api.OpAndK, S: 1}, {Op: api.OpMulK, K: -2147483649}, {Op: api.OpMulK, K: 2147483648}, {Op: api.OpMulK, S: -1},
		{Op: api.OpMulS}, {Op: api.OpMulS, K: -1}, {Op: api.OpMulS, K: 1<<62 + 1}, {Op: api.OpMulS, K: 1, S: -1}, {Op: api.OpMulS, K: 1, S: 63}, {Op: api.OpMulS, S: 1},
		{Op: api.OpNeg, K: 1}, {Op: api.OpNeg, S: 1}, {Op: api.OpAdd, K: -1}, {Op: api.OpAdd, S: -1}, {Op: api.OpShl, K: 1}, {Op: api.OpShr, K: 1}, {Op: api.OpAnd, K: 1}, {Op: api.OpMul, K: 1}, {Op: api.OpSel, K: 1}, {Op: api.OpSel, S: 1},
	} {
		refused(t, coded(num(1), n))
		refused(t, coded(num(1), n, num(3), num(4)))
	}
}

// One fault is enough, wherever it stands, Out's register or not.
func TestFaultsAnywhere(t *testing.T) {
	for _, bad := range []api.Inst{of(api.OpUse), of(0), num(1 << 31), in(6), place(256), of(api.OpNeg, 200), with(api.OpShlK, 0, 32, 0)} {
		for _, count := range []int{1, 2, 5, 200} {
			for i := range count {
				list := noughts(count)
				list[i] = bad
				for _, out := range []int{0, i, count - 1} {
					if e := code.Check(api.Code{Kind: image, Insts: list, Out: out}); e != api.ErrCode {
						t.Errorf("%v as the number %d of %d: %d", bad, i, count, e)
					}
				}
			}
		}
	}
}

// 11.2: Args

func TestArgs(t *testing.T) {
	for op := -50; op <= 50; op++ {
		want := []int{7, -9, 1 << 40}[:operators[op].reads]
		n := api.Inst{Op: op, A: 7, B: -9, C: 1 << 40, K: 3, S: 4}
		if got := code.Args(n); !slices.Equal(got, want) {
			t.Errorf("Args(%v) = %v, not %v", n, got, want)
		}
		zero := make([]int, operators[op].reads)
		if got := code.Args(api.Inst{Op: op}); !slices.Equal(got, zero) {
			t.Errorf("Args of the operator %d alone: %v, not %v", op, got, zero)
		}
	}
	for _, op := range far {
		if got := code.Args(api.Inst{Op: op, A: 1, B: 2, C: 3}); len(got) != 0 {
			t.Errorf("Args of the operator %d: %v", op, got)
		}
	}
	for _, c := range []struct {
		n    api.Inst
		want []int
	}{
		{num(5), nil}, {in(2), nil}, {place(16), nil}, {of(api.OpUse), nil}, {of(api.OpNeg, 4), []int{4}}, {with(api.OpMulS, 3, 171, 9), []int{3}}, {with(api.OpShlK, 2, 1, 0), []int{2}},
		{of(api.OpSub, 1, 0), []int{1, 0}}, {of(api.OpMax, 5, 5), []int{5, 5}}, {of(api.OpSel, 3, 1, 2), []int{3, 1, 2}}, {of(api.OpMed, 0, 0, 9), []int{0, 0, 9}}, {of(api.OpClamp, math.MinInt, math.MaxInt, -1), []int{math.MinInt, math.MaxInt, -1}},
	} {
		if got := code.Args(c.n); !slices.Equal(got, c.want) {
			t.Errorf("Args(%v) = %v, not %v", c.n, got, c.want)
		}
	}
}

// 11.2: Cost

func TestCost(t *testing.T) {
	costs := map[int]int{api.OpUse: 0, api.OpDiv: 4, api.OpMod: 6}
	for op := -50; op <= 50; op++ {
		want, ok := costs[op]
		if !ok {
			want = 1
		}
		if want != check.Cost(op) {
			t.Errorf("the tests' cost of the operator %d isn't layer 9's", op)
		}
		for _, count := range []int{1, 2, 200, 201, 1000} {
			c := api.Code{Insts: slices.Repeat([]api.Inst{of(op)}, count)}
			if got := code.Cost(c); got != want*count {
				t.Errorf("Cost of %d times the operator %d: %d, not %d", count, op, got, want*count)
			}
		}
	}
	for _, op := range far {
		if got := code.Cost(api.Code{Insts: []api.Inst{{Op: op}, {Op: api.OpDiv}}}); got != 5 {
			t.Errorf("Cost of the operator %d and OpDiv: %d, not 5", op, got)
		}
	}
	many := slices.Repeat([]api.Inst{of(api.OpMod), of(api.OpUse), of(api.OpDiv), of(99)}, 1<<16)
	for _, c := range []struct {
		c    api.Code
		want int
	}{
		{api.Code{}, 0}, {api.Code{Kind: image, Insts: []api.Inst{}, Out: 3}, 0}, {api.Code{Kind: api.Kind{Form: 7, Depth: -1}, Insts: noughts(3), Out: -1}, 3},
		{coded(num(7), num(2), of(api.OpDiv, 0, 1), of(api.OpMod, 0, 1), of(api.OpAdd, 2, 3)), 13},
		{coded(of(api.OpDiv, 9, -9), of(api.OpUse), of(api.OpMod), api.Inst{Op: api.OpMulS, S: -1}), 11},
		{coded(noughts(200)...), 200}, {api.Code{Insts: many}, 11 << 16},
	} {
		if got := code.Cost(c.c); got != c.want {
			t.Errorf("Cost(%s) = %d, not %d", shown(c.c), got, c.want)
		}
	}
}

// 11.2: Uses

func TestUses(t *testing.T) {
	for _, c := range []struct {
		list []api.Inst
		out  int
		want []int
	}{
		{noughts(1), 0, []int{1}},
		{noughts(3), 0, []int{1, 0, 0}},
		{noughts(3), 1, []int{0, 1, 0}},
		{noughts(3), 2, []int{0, 0, 1}},
		// Once, twice by one instruction, three times by one, by several; Out, or not.
		{[]api.Inst{num(1), of(api.OpNeg, 0)}, 1, []int{1, 1}},
		{[]api.Inst{num(1), of(api.OpNeg, 0)}, 0, []int{2, 0}},
		{[]api.Inst{num(1), of(api.OpAdd, 0, 0)}, 1, []int{2, 1}},
		{[]api.Inst{num(1), of(api.OpAdd, 0, 0)}, 0, []int{3, 0}},
		{[]api.Inst{num(1), of(api.OpMed, 0, 0, 0)}, 1, []int{3, 1}},
		{[]api.Inst{num(1), of(api.OpMed, 0, 0, 0)}, 0, []int{4, 0}},
		{[]api.Inst{num(1), of(api.OpNeg, 0), of(api.OpSub, 1, 0), of(api.OpSel, 2, 0, 1)}, 3, []int{3, 2, 1, 1}},
		{[]api.Inst{num(1), of(api.OpNeg, 0), of(api.OpSub, 1, 0), of(api.OpSel, 2, 0, 1)}, 1, []int{3, 3, 1, 0}},
		{[]api.Inst{num(1), num(2), num(3), of(api.OpAdd, 1, 1)}, 3, []int{0, 2, 0, 1}},
		{[]api.Inst{num(1), num(2), num(3), of(api.OpClamp, 2, 1, 2)}, 3, []int{0, 1, 2, 1}},
		// A constant is no register, and the noughts of parts that an instruction hasn't read nothing.
		{[]api.Inst{in(1), place(1), num(1), with(api.OpShlK, 2, 1, 0), with(api.OpMulS, 2, 1, 1), with(api.OpAndK, 1, 2, 0), with(api.OpMulK, 3, 0, 0)}, 6, []int{0, 1, 2, 1, 0, 0, 1}},
		// Registers that an error would come of, or that are never read.
		{[]api.Inst{num(0), of(api.OpDiv, 0, 0), place(255), of(api.OpDiv, 2, 0)}, 0, []int{4, 0, 1, 0}},
	} {
		got, e := code.Uses(api.Code{Kind: image, Insts: c.list, Out: c.out})
		if e != api.OK || !slices.Equal(got, c.want) {
			t.Errorf("Uses of %v with Out %d: %v, %d, not %v", c.list, c.out, got, e, c.want)
		}
	}
	for _, op := range all {
		reads := operators[op].reads
		got, e := code.Uses(coded(num(1), num(2), plain(op, 2)))
		if e != api.OK || !slices.Equal(got, []int{0, reads, 1}) {
			t.Errorf("Uses of the operator %d: %v, %d", op, got, e)
		}
	}
	list := noughts(1)
	for range 199 {
		list = append(list, of(api.OpMax, 0, len(list)-1))
	}
	want := append([]int{200}, slices.Repeat([]int{1}, 199)...)
	if got, e := code.Uses(coded(list...)); e != api.OK || !slices.Equal(got, want) {
		t.Errorf("Uses of 200 instructions: %v, %d", got, e)
	}
}

func TestUsesOfWhatMayNotBe(t *testing.T) {
	for _, c := range []api.Code{
		{}, {Kind: image}, {Kind: image, Insts: noughts(3), Out: 3}, {Kind: image, Insts: noughts(3), Out: -1}, {Insts: noughts(3)}, coded(noughts(201)...),
		coded(num(1), of(api.OpAdd, 0, 1)), coded(num(1), of(api.OpAdd, -1, 0)), coded(num(1), of(api.OpAdd, 0, math.MaxInt)), coded(of(api.OpUse)), coded(of(34)), coded(num(1), with(api.OpShlK, 0, 32, 0)),
	} {
		refused(t, c)
	}
}

// 11.2: Same

// differs asks that two codes aren't the same, either way, and each is the same as itself.
func differs(t *testing.T, a, b api.Code) {
	t.Helper()
	if code.Same(a, b) || code.Same(b, a) {
		t.Errorf("%s and %s are the same", shown(a), shown(b))
	}
	if !code.Same(a, copied(a)) || !code.Same(b, copied(b)) {
		t.Errorf("%s or %s isn't the same as its copy", shown(a), shown(b))
	}
}

func TestSame(t *testing.T) {
	a := coded(place(16), in(1), api.Inst{Op: 5, A: 6, B: 7, C: 8, K: 9, S: 10}, num(-3))
	b := copied(a)
	fields := []*int{&b.Kind.Form, &b.Kind.Depth, &b.Out}
	for i := range b.Insts {
		n := &b.Insts[i]
		fields = append(fields, &n.Op, &n.A, &n.B, &n.C, &n.K, &n.S)
	}
	for _, field := range fields {
		was := *field
		for _, to := range append([]int{was - 1, was + 1, -was - 1, was + 256, was + 1<<32, was + math.MinInt}, far...) {
			*field = to
			differs(t, a, b)
		}
		*field = was
	}
	if !code.Same(a, b) {
		t.Errorf("%s and %s aren't the same", shown(a), shown(b))
	}
	// Parts that stand in another order, or in another field.
	differs(t, coded(num(1), num(2)), coded(num(2), num(1)))
	differs(t, coded(of(api.OpSub, 1, 0)), coded(of(api.OpSub, 0, 1)))
	differs(t, coded(api.Inst{K: 1, S: 2}), coded(api.Inst{K: 2, S: 1}))
	differs(t, api.Code{Kind: api.Kind{Form: 1, Depth: 2}}, api.Code{Kind: api.Kind{Form: 2, Depth: 1}})
}

func TestSameByLength(t *testing.T) {
	for _, n := range []int{0, 1, 2, 200, 201, 5000} {
		for _, m := range []int{0, 1, 2, 200, 201, 5000} {
			a, b := api.Code{Kind: image, Insts: make([]api.Inst, n)}, api.Code{Kind: image, Insts: make([]api.Inst, m)}
			if got := code.Same(a, b); got != (n == m) {
				t.Errorf("Same of %d and %d instructions: %v", n, m, got)
			}
		}
	}
	// One list within another's memory.
	list := noughts(6)
	differs(t, api.Code{Insts: list[:3]}, api.Code{Insts: list[:4]})
	if !code.Same(api.Code{Insts: list[:3]}, api.Code{Insts: list[3:]}) || !code.Same(api.Code{Insts: list[:0]}, api.Code{}) {
		t.Error("spare room is looked at")
	}
	none := []api.Code{{}, {Insts: []api.Inst{}}, {Insts: make([]api.Inst, 0, 5)}}
	for _, a := range none {
		for _, b := range none {
			if !code.Same(a, b) {
				t.Error("two codes without instructions aren't the same")
			}
		}
		differs(t, a, api.Code{Insts: make([]api.Inst, 1)})
		differs(t, a, api.Code{Out: 1})
		differs(t, a, api.Code{Kind: image})
	}
}

// 11.3: Check's error, and windows

// strange are windows that don't fit {Image, 8}, nor {Sound, 16}.
func strange() []api.Window {
	list := []api.Window{{}, {P: []int{}}, {P: []int{0}}, {X: -1, P: make([]int, 44)}, {C: 4, P: make([]int, 31)}, {X: math.MinInt, Y: math.MaxInt, C: -1}}
	for _, count := range []int{30, 32, 43, 45, 100} {
		list = append(list, api.Window{P: make([]int, count)})
	}
	for _, count := range []int{31, 44} {
		for _, sample := range []int{math.MinInt, -32769, 65536, math.MaxInt} {
			w := api.Window{P: make([]int, count)}
			w.P[count-1] = sample
			list = append(list, w)
		}
	}
	return list
}

// faults are codes that may not be, one for each thing that is asked.
func faults() []api.Code {
	list := []api.Code{
		{}, {Kind: image}, {Insts: noughts(1)}, {Kind: api.Kind{Form: 2, Depth: 8}, Insts: noughts(1)}, {Kind: api.Kind{Depth: 17}, Insts: noughts(1)},
		coded(noughts(201)...), {Kind: image, Insts: noughts(2), Out: 2}, {Kind: image, Insts: noughts(2), Out: -1},
	}
	for _, n := range []api.Inst{of(0), of(api.OpUse), of(34), num(1 << 31), {Op: api.OpNum, S: 1}, {Op: api.OpNum, A: 1}, in(6), place(256), of(api.OpNeg, 2), of(api.OpNeg, -1), {Op: api.OpNeg, B: 1}, {Op: api.OpAdd, C: 1}, {Op: api.OpAdd, K: 1}, with(api.OpShrK, 0, 32, 0), with(api.OpMulS, 0, 0, 0), with(api.OpMulS, 0, 1, 63)} {
		// Behind what Values has an error for, and ahead of it.
		list = append(list, coded(num(0), n), coded(num(0), of(api.OpDiv, 0, 0), n), coded(num(0), n, place(255)))
	}
	return list
}

func TestErrorsOfTheCheck(t *testing.T) {
	for _, c := range faults() {
		for seed := range uint(4) {
			fails(t, c, windowOf(image, seed), api.ErrCode)
			fails(t, c, windowOf(sound, seed), api.ErrCode)
		}
		for _, w := range strange() {
			fails(t, c, w, api.ErrCode)
		}
	}
}

// A window that doesn't fit is the answer ahead of every instruction's error, and also where nothing of it is read.
func TestWindowsThatDoNotFit(t *testing.T) {
	codes := []api.Code{coded(num(1)), coded(in(api.InHi)), coded(place(0)), coded(place(43)), coded(place(255)), coded(num(0), of(api.OpMod, 0, 0)), coded(num(least), of(api.OpNeg, 0))}
	for _, k := range []api.Kind{image, sound} {
		for _, c := range codes {
			c.Kind = k
			for _, w := range strange() {
				fails(t, c, w, api.ErrInput)
			}
			fails(t, c, windowOf(map[api.Kind]api.Kind{image: sound, sound: image}[k], 3), api.ErrInput)
		}
	}
}

func TestWindowsByTheirEdges(t *testing.T) {
	kinds(func(k api.Kind) {
		for _, c := range []api.Code{coded(num(1)), coded(in(api.InX), in(api.InY), in(api.InC)), coded(place(3))} {
			c.Kind = k
			for count := range 60 {
				w := api.Window{P: make([]int, count)}
				if count == places(k.Form) {
					if _, e := modelled(t, c, w); e != api.OK {
						t.Errorf("%s on a window that fits: %d", shown(c), e)
					}
					continue
				}
				fails(t, c, w, api.ErrInput)
			}
			w := windowOf(k, 5)
			x, y, plane := ends(k.Form)
			low, high, _ := samples(k)
			last := len(w.P) - 1
			for _, field := range []struct{ at, low, high *int }{{&w.X, new(int), &x}, {&w.Y, new(int), &y}, {&w.C, new(int), &plane}, {&w.P[0], &low, &high}, {&w.P[last], &low, &high}} {
				was := *field.at
				for _, *field.at = range []int{*field.low, *field.high} {
					if _, e := modelled(t, c, w); e != api.OK {
						t.Errorf("%s on %v: %d", shown(c), w, e)
					}
				}
				for _, *field.at = range []int{*field.low - 1, *field.high + 1, math.MinInt, math.MaxInt, 1 << 32, -1 << 32} {
					fails(t, c, w, api.ErrInput)
				}
				*field.at = was
			}
		}
	})
}

// 11.3: numbers, inputs, places

func TestNumbers(t *testing.T) {
	list := []int{least, least + 1, -65536, -2, -1, 0, 1, 2, 255, 65536, most - 1, most}
	var insts []api.Inst
	for _, n := range list {
		insts = append(insts, num(n))
	}
	kinds(func(k api.Kind) {
		c := coded(insts...)
		c.Kind = k
		tells(t, c, windowOf(k, 3), list...)
	})
}

func TestInputs(t *testing.T) {
	for _, c := range []struct {
		k             api.Kind
		low, high, at int
	}{
		{api.Kind{Form: api.Image, Depth: 1}, 0, 1, 1},
		{api.Kind{Form: api.Image, Depth: 2}, 0, 3, 2},
		{api.Kind{Form: api.Image, Depth: 8}, 0, 255, 128},
		{api.Kind{Form: api.Image, Depth: 16}, 0, 65535, 32768},
		{api.Kind{Form: api.Sound, Depth: 1}, -1, 0, 0},
		{api.Kind{Form: api.Sound, Depth: 2}, -2, 1, 0},
		{api.Kind{Form: api.Sound, Depth: 8}, -128, 127, 0},
		{api.Kind{Form: api.Sound, Depth: 16}, -32768, 32767, 0},
	} {
		x, y, plane := ends(c.k.Form)
		w := windowOf(c.k, 4)
		for _, w.X = range []int{0, 1, x / 2, x - 1, x} {
			for _, w.Y = range []int{0, y / 3, y} {
				for _, w.C = range []int{0, 1, plane} {
					want := []int{w.X, w.Y, w.C, c.low, c.high, c.at}
					together := coded(in(0), in(1), in(2), in(3), in(4), in(5))
					together.Kind = c.k
					tells(t, together, w, want...)
					for i, n := range want {
						tells(t, api.Code{Kind: c.k, Insts: []api.Inst{in(i)}}, w, n)
					}
				}
			}
		}
	}
}

func TestPlaces(t *testing.T) {
	kinds(func(k api.Kind) {
		low, high, _ := samples(k)
		count := kind.Count(k)
		if count != []int{44, 31}[k.Form] {
			t.Fatalf("%v has %d places", k, count)
		}
		var list []api.Inst
		for n := range count {
			list = append(list, place(n))
		}
		// At low depths the places can't all be different: one is unlike all others.
		for n := range count {
			lone, hole := windowOf(k, 0), windowOf(k, 1)
			lone.P[n], hole.P[n] = high, low
			for _, w := range []api.Window{lone, hole} {
				tells(t, api.Code{Kind: k, Insts: list, Out: n}, w, w.P...)
				tells(t, api.Code{Kind: k, Insts: list[n : n+1]}, w, w.P[n])
			}
		}
		for seed := range uint(10) {
			w := windowOf(k, seed)
			tells(t, api.Code{Kind: k, Insts: list}, w, w.P...)
		}
		for n := count; n <= 255; n++ {
			fails(t, api.Code{Kind: k, Insts: []api.Inst{place(n)}}, windowOf(k, 3), api.ErrAhead)
		}
	})
	// What is behind the places in the window's spare room is not looked at.
	for _, k := range []api.Kind{image, sound} {
		w := windowOf(k, 3)
		count := len(w.P)
		w.P = append(w.P, 1, 2, 3, 4, 5)[:count]
		for n := count; n < count+5; n++ {
			fails(t, api.Code{Kind: k, Insts: []api.Inst{place(n)}}, w, api.ErrAhead)
		}
	}
}

// 11.3: operators

// reckoned are the operators' numbers and what they come to: the arguments, then K and S where the operator has them, then the answer.
var reckoned = map[int][][]int{
	api.OpNeg:   {{0, 0}, {7, -7}, {-7, 7}, {most, -most}, {least + 1, most}},
	api.OpAbs:   {{0, 0}, {7, 7}, {-7, 7}, {most, most}, {least + 1, most}},
	api.OpSgn:   {{0, 0}, {7, 1}, {-7, -1}, {most, 1}, {least, -1}},
	api.OpAdd:   {{1, 2, 3}, {-1, 2, 1}, {1, -2, -1}, {-1, -2, -3}, {most - 1, 1, most}, {least, most, -1}, {least, 0, least}, {least + 1, -1, least}},
	api.OpSub:   {{1, 2, -1}, {2, 1, 1}, {-1, 2, -3}, {-1, -2, 1}, {-most, 1, least}, {least, least, 0}, {-1, least, most}, {0, most, -most}},
	api.OpMul:   {{3, 4, 12}, {-3, 4, -12}, {3, -4, -12}, {-3, -4, 12}, {65536, -32768, least}, {46340, 46340, 2147395600}, {least, 1, least}, {least, 0, 0}, {most, -1, -most}},
	api.OpDiv:   {{7, 2, 3}, {-7, 2, -3}, {7, -2, -3}, {-7, -2, 3}, {1, 2, 0}, {-1, 2, 0}, {2, 7, 0}, {6, 3, 2}, {-6, 3, -2}, {least, -2, 1 << 30}, {least, 1, least}, {most, -1, -most}, {least, most, -1}, {0, -5, 0}, {least, least, 1}},
	api.OpMod:   {{7, 2, 1}, {-7, 2, -1}, {7, -2, 1}, {-7, -2, -1}, {-8, 4, 0}, {2, 7, 2}, {-2, 7, -2}, {least, -1, 0}, {least, 1, 0}, {least, most, -1}, {most, least, most}, {0, -5, 0}},
	api.OpShl:   {{3, 4, 48}, {4, 3, 32}, {-3, 4, -48}, {5, 0, 5}, {0, 31, 0}, {-1, 31, least}, {1, 30, 1 << 30}, {least, 0, least}},
	api.OpShr:   {{48, 4, 3}, {4, 1, 2}, {1, 4, 0}, {-1, 4, -1}, {-7, 1, -4}, {7, 1, 3}, {-9, 3, -2}, {least, 31, -1}, {least, 0, least}, {most, 31, 0}, {most, 30, 1}},
	api.OpAnd:   {{12, 10, 8}, {-2, 7, 6}, {7, -2, 6}, {-1, -1, -1}, {-8, -3, -8}, {least, -1, least}, {least, most, 0}},
	api.OpOr:    {{12, 10, 14}, {-8, 3, -5}, {3, -8, -5}, {-8, -3, -3}, {0, 0, 0}, {least, most, -1}, {least, 0, least}},
	api.OpXor:   {{12, 10, 6}, {-1, 5, -6}, {5, -1, -6}, {-8, -3, 5}, {least, most, -1}, {least, least, 0}, {least, -1, most}},
	api.OpLt:    {{1, 2, 1}, {2, 1, 0}, {2, 2, 0}, {-2, 1, 1}, {1, -2, 0}, {-2, -1, 1}, {least, most, 1}, {most, least, 0}},
	api.OpLe:    {{1, 2, 1}, {2, 1, 0}, {2, 2, 1}, {-2, 1, 1}, {1, -2, 0}, {-1, -2, 0}, {least, most, 1}, {most, least, 0}},
	api.OpGt:    {{1, 2, 0}, {2, 1, 1}, {2, 2, 0}, {-2, 1, 0}, {1, -2, 1}, {-1, -2, 1}, {least, most, 0}, {most, least, 1}},
	api.OpGe:    {{1, 2, 0}, {2, 1, 1}, {2, 2, 1}, {-2, 1, 0}, {1, -2, 1}, {-2, -1, 0}, {least, most, 0}, {most, least, 1}},
	api.OpEq:    {{1, 2, 0}, {2, 2, 1}, {-1, 1, 0}, {-1, -1, 1}, {least, least, 1}, {least, most, 0}},
	api.OpNe:    {{1, 2, 1}, {2, 2, 0}, {-1, 1, 1}, {-1, -1, 0}, {least, least, 0}, {least, most, 1}},
	api.OpMin:   {{-3, 2, -3}, {2, -3, -3}, {4, 4, 4}, {least, most, least}, {most, least, least}},
	api.OpMax:   {{-3, 2, 2}, {2, -3, 2}, {4, 4, 4}, {least, most, most}, {most, least, most}},
	api.OpClamp: {{4, 0, 9, 4}, {-4, 0, 9, 0}, {12, 0, 9, 9}, {3, 9, 5, 5}, {9, 5, 3, 3}, {1, 3, 9, 3}, {-1, -9, -5, -5}, {most, least, 0, 0}, {least, -1, most, -1}, {0, most, least, least}},
	api.OpMed:   {{1, 5, 9, 5}, {1, 9, 5, 5}, {5, 1, 9, 5}, {5, 9, 1, 5}, {9, 1, 5, 5}, {9, 5, 1, 5}, {2, 2, 9, 2}, {9, 2, 9, 9}, {-1, -5, -9, -5}, {least, most, -1, -1}},
	api.OpSel:   {{1, 10, 20, 10}, {0, 10, 20, 20}, {-1, 10, 20, 10}, {most, 10, 20, 10}, {least, 10, 20, 10}, {0, least, most, most}, {1, least, most, least}},
	api.OpShlK:  {{3, 4, 48}, {-3, 4, -48}, {5, 0, 5}, {0, 31, 0}, {-1, 31, least}, {1, 30, 1 << 30}, {least, 0, least}},
	api.OpShrK:  {{48, 4, 3}, {-1, 4, -1}, {-7, 1, -4}, {7, 1, 3}, {least, 31, -1}, {least, 0, least}, {most, 31, 0}},
	api.OpAndK:  {{12, 10, 8}, {-2, 7, 6}, {-1, most, most}, {least, most, 0}, {-8, 0, 0}, {least, 1, 0}},
	api.OpMulK:  {{3, 4, 12}, {-3, 4, -12}, {3, -4, -12}, {-3, -4, 12}, {65536, -32768, least}, {1, least, least}, {0, least, 0}, {-1, most, -most}, {least, 1, least}},
	api.OpMulS:  {{7, 1431655766, 32, 2}, {-7, 1431655766, 32, -3}, {255, 171, 9, 85}, {-255, 171, 9, -86}, {1, 1 << 62, 62, 1}, {-1, 1 << 62, 62, -1}, {-1, 1, 62, -1}, {1, 1, 62, 0}, {5, 3, 0, 15}, {-5, 3, 0, -15}, {0, 1 << 62, 0, 0}, {least, 1 << 31, 31, least}, {most, 1 << 31, 31, most}, {least, 1, 0, least}, {9, 1 << 58, 60, 2}},
}

// failing are the operators' numbers of which there is no answer, with the error; the numbers as in reckoned.
var failing = []struct {
	op      int
	e       api.Errno
	numbers []int
}{
	{api.OpNeg, api.ErrOverflow, []int{least}}, {api.OpAbs, api.ErrOverflow, []int{least}},
	{api.OpAdd, api.ErrOverflow, []int{most, 1}}, {api.OpAdd, api.ErrOverflow, []int{-1, least}}, {api.OpAdd, api.ErrOverflow, []int{least, least}},
	{api.OpSub, api.ErrOverflow, []int{least, 1}}, {api.OpSub, api.ErrOverflow, []int{0, least}}, {api.OpSub, api.ErrOverflow, []int{most, -1}},
	{api.OpMul, api.ErrOverflow, []int{65536, 32768}}, {api.OpMul, api.ErrOverflow, []int{least, -1}}, {api.OpMul, api.ErrOverflow, []int{least, least}}, {api.OpMul, api.ErrOverflow, []int{46341, 46341}},
	{api.OpDiv, api.ErrDivZero, []int{1, 0}}, {api.OpDiv, api.ErrDivZero, []int{0, 0}}, {api.OpDiv, api.ErrOverflow, []int{least, -1}},
	{api.OpMod, api.ErrDivZero, []int{1, 0}}, {api.OpMod, api.ErrDivZero, []int{least, 0}},
	{api.OpShl, api.ErrOverflow, []int{1, 31}}, {api.OpShl, api.ErrOverflow, []int{0, 32}}, {api.OpShl, api.ErrOverflow, []int{0, -1}}, {api.OpShl, api.ErrOverflow, []int{-2, 31}},
	{api.OpShr, api.ErrOverflow, []int{1, 32}}, {api.OpShr, api.ErrOverflow, []int{1, -1}}, {api.OpShr, api.ErrOverflow, []int{0, least}},
	{api.OpShlK, api.ErrOverflow, []int{1, 31}}, {api.OpShlK, api.ErrOverflow, []int{-2, 31}}, {api.OpShlK, api.ErrOverflow, []int{most, 1}},
	{api.OpMulK, api.ErrOverflow, []int{2, least}}, {api.OpMulK, api.ErrOverflow, []int{-1, least}}, {api.OpMulK, api.ErrOverflow, []int{most, most}},
	{api.OpMulS, api.ErrOverflow, []int{2, 1 << 62, 62}}, {api.OpMulS, api.ErrOverflow, []int{-2, 1 << 62, 62}}, {api.OpMulS, api.ErrOverflow, []int{least, 1<<31 + 1, 62}}, {api.OpMulS, api.ErrOverflow, []int{most, 2, 0}}, {api.OpMulS, api.ErrOverflow, []int{least, 1 << 31, 30}},
}

// asked answers a code that asks an operator of numbers, the number i standing in the register order[i].
func asked(op int, numbers []int, order [3]int) api.Code {
	list := noughts(3)
	n := of(op, order[:operators[op].reads]...)
	for i, r := range order[:operators[op].reads] {
		list[r] = num(numbers[i])
	}
	if constants := numbers[operators[op].reads:]; len(constants) > 0 {
		n.K = constants[0]
		if len(constants) > 1 {
			n.S = constants[1]
		}
	}
	return coded(append(list, n)...)
}

// orders are the orders in which three registers may be read.
var orders = [][3]int{{0, 1, 2}, {0, 2, 1}, {1, 0, 2}, {1, 2, 0}, {2, 0, 1}, {2, 1, 0}}

func TestOperatorsByHand(t *testing.T) {
	for _, op := range all {
		if operators[op].reads > 0 && len(reckoned[op]) < 5 {
			t.Errorf("the operator %d is asked %d times", op, len(reckoned[op]))
		}
		for _, row := range reckoned[op] {
			numbers, want := row[:len(row)-1], row[len(row)-1]
			for _, order := range orders {
				c := asked(op, numbers, order)
				for _, k := range []api.Kind{image, sound} {
					c.Kind = k
					got, e := modelled(t, c, windowOf(k, 3))
					if e != api.OK || len(got) != 4 || got[3] != want {
						t.Errorf("the operator %d of %v, in the order %v: %v, %d, not %d", op, numbers, order, got, e, want)
					}
				}
			}
		}
	}
	for _, row := range failing {
		for _, order := range orders {
			fails(t, asked(row.op, row.numbers, order), windowOf(image, 3), row.e)
		}
	}
}

// Every operator of numbers about its edges, held against the model.
func TestOperatorsOfNumbers(t *testing.T) {
	many := []int{least, least + 1, -1 << 30, -65536, -46341, -33, -32, -31, -8, -7, -3, -2, -1, 0, 1, 2, 3, 7, 8, 30, 31, 32, 33, 255, 46340, 65535, 1 << 30, most - 1, most}
	few := []int{least, -7, -2, -1, 0, 1, 2, 7, most}
	w := windowOf(image, 3)
	for _, op := range all {
		a := operators[op]
		for _, x := range many {
			switch {
			case a.reads == 1:
				for _, k := range append([]int{a.low, a.high, 1 << 31, 1431655766, 1<<62 - 1, 1 << 61}, many...) {
					for _, s := range []int{0, 1, 9, 31, 32, 61, 62} {
						if k >= a.low && k <= a.high && s <= a.shift {
							modelled(t, coded(num(x), with(op, 0, k, s)), w)
						}
					}
				}
			case a.reads == 2:
				for _, y := range many {
					modelled(t, coded(num(x), num(y), of(op, 0, 1)), w)
				}
			case a.reads == 3 && slices.Contains(few, x):
				for _, y := range few {
					for _, z := range few {
						modelled(t, coded(num(x), num(y), num(z), of(op, 0, 1, 2)), w)
					}
				}
			}
		}
	}
}

// The numbers come from the window.
func TestOperatorsOfPlaces(t *testing.T) {
	edges := []int{-32768, -32767, -17, -7, -2, -1, 0, 1, 2, 7, 15, 31, 32767}
	for _, op := range all {
		c := api.Code{Kind: sound, Insts: []api.Inst{place(15), place(14), place(13), of(op, []int{0, 1, 2}[:operators[op].reads]...)}, Out: 3}
		for i, a := range edges {
			for j, b := range edges {
				w := windowOf(sound, uint(i))
				w.P[15], w.P[14], w.P[13] = a, b, edges[(i*5+j*7)%len(edges)]
				c.Insts[3].K = max(operators[op].low, 0)
				modelled(t, c, w)
				c.Insts[3].K, c.Insts[3].S = min(operators[op].high, 5), min(operators[op].shift, 3)
				modelled(t, c, w)
				c.Insts[3].S = 0
			}
		}
	}
	w := windowOf(sound, 3)
	w.P[15], w.P[14], w.P[13] = -7, 3, 20
	c := api.Code{Kind: sound, Insts: []api.Inst{
		place(15), place(14), place(13), of(api.OpSub, 0, 1), of(api.OpSub, 1, 0), of(api.OpDiv, 0, 1), of(api.OpMod, 0, 1), of(api.OpMod, 1, 0), of(api.OpShl, 0, 1), of(api.OpLt, 0, 1), of(api.OpLt, 1, 0),
		of(api.OpClamp, 0, 1, 2), of(api.OpClamp, 1, 2, 0), of(api.OpMed, 2, 0, 1), of(api.OpSel, 0, 1, 2), of(api.OpSel, 10, 1, 2), of(api.OpNeg, 8), with(api.OpShrK, 0, 1, 0), with(api.OpAndK, 0, 15, 0), with(api.OpMulK, 0, -3, 0), with(api.OpMulS, 0, 171, 9), with(api.OpShlK, 2, 4, 0),
	}}
	tells(t, c, w, -7, 3, 20, -10, 10, -2, -1, 3, -56, 1, 0, 3, -7, 3, 3, 20, 56, -4, 9, 21, -3, 320)
}

// Each instruction may read all that came ahead, Out's register or not; Out changes nothing of what the registers come to.
func TestChains(t *testing.T) {
	list := []api.Inst{in(api.InC)}
	want := []int{1}
	for i := range 30 {
		list = append(list, of(api.OpAdd, i, i))
		want = append(want, 2<<i)
	}
	want[30] = 1 << 30
	w := windowOf(image, 3)
	w.C = 1
	for out := range list {
		c := api.Code{Kind: image, Insts: list, Out: out}
		tells(t, c, w, want...)
		c.Insts = append(slices.Clone(list), of(api.OpAdd, 30, 30))
		fails(t, c, w, api.ErrOverflow)
	}
	// As many instructions as may be, each reading the one just ahead and the first; dearer than MaxCost is no error here.
	list, want = []api.Inst{num(3)}, []int{3}
	for i := 1; i < 200; i++ {
		list = append(list, of(api.OpSub, 0, i-1))
		want = append(want, 3-want[i-1])
	}
	tells(t, coded(list...), w, want...)
	list, want = []api.Inst{num(-7), num(2)}, []int{-7, 2}
	for range 198 {
		list = append(list, of(api.OpMod, 0, 1))
		want = append(want, -1)
	}
	tells(t, coded(list...), w, want...)
	if n := code.Cost(coded(list...)); n != 2+198*6 {
		t.Errorf("Cost: %d", n)
	}
}

// 11.3: errors

// The error that comes first among the instructions is the answer, whether Out reads its register or not.
func TestTwoErrors(t *testing.T) {
	ahead := []api.Inst{num(0), num(1), num(least)}
	bad := map[api.Errno][]api.Inst{
		api.ErrAhead:    {place(44), place(255)},
		api.ErrDivZero:  {of(api.OpDiv, 1, 0), of(api.OpMod, 1, 0), of(api.OpDiv, 0, 0)},
		api.ErrOverflow: {of(api.OpNeg, 2), of(api.OpSub, 0, 2), of(api.OpShl, 1, 2), with(api.OpMulK, 2, 2, 0), with(api.OpMulS, 2, 1<<62, 62)},
	}
	w := windowOf(image, 3)
	for e, firsts := range bad {
		for _, one := range firsts {
			for _, out := range []int{0, 1, 3, 4} {
				fails(t, api.Code{Kind: image, Insts: append(slices.Clone(ahead), one, num(5)), Out: out}, w, e)
			}
			for _, seconds := range bad {
				for _, two := range seconds {
					for _, out := range []int{0, 3, 4, 5, 6} {
						fails(t, api.Code{Kind: image, Insts: append(slices.Clone(ahead), one, num(5), two, num(6)), Out: out}, w, e)
					}
				}
			}
		}
	}
	// What reads a register that came to nothing isn't asked.
	fails(t, coded(num(0), place(44), of(api.OpDiv, 1, 0)), w, api.ErrAhead)
	fails(t, coded(num(0), of(api.OpDiv, 0, 0), of(api.OpSel, 0, 1, 0)), w, api.ErrDivZero)
	fails(t, coded(num(0), of(api.OpDiv, 0, 0), of(api.OpMod, 0, 1), place(44)), w, api.ErrDivZero)
}

// Which windows a code has an error on, its samples decide.
func TestErrorsByTheWindow(t *testing.T) {
	w := windowOf(sound, 3)
	c := api.Code{Kind: sound, Insts: []api.Inst{place(15), place(14), of(api.OpDiv, 0, 1), of(api.OpShl, 1, 0)}, Out: 0}
	for left, by := range map[[2]int]api.Errno{{3, 2}: api.OK, {3, 0}: api.ErrDivZero, {32, 0}: api.ErrDivZero, {32, 1}: api.ErrOverflow, {-1, 1}: api.ErrOverflow, {31, 1}: api.ErrOverflow, {31, -1}: api.OK, {30, 1}: api.OK, {0, 32767}: api.OK, {17, 32767}: api.ErrOverflow, {16, 32767}: api.OK} {
		w.P[15], w.P[14] = left[0], left[1]
		if _, e := modelled(t, c, w); e != by {
			t.Errorf("%v: %d, not %d", left, e, by)
		}
	}
}

// Codes at random

// sketch answers a code of a kind: mostly instructions that may be, reading what came ahead.
func sketch(next func(int) int, k api.Kind, count int) api.Code {
	c := api.Code{Kind: k, Out: next(count)}
	for i := range count {
		op := all[next(len(all))]
		if i == 0 || next(4) == 0 {
			op = []int{api.OpNum, api.OpIn, api.OpPlace, api.OpPlace}[next(4)]
		}
		a := operators[op]
		n := api.Inst{Op: op, S: next(a.shift + 1)}
		for _, field := range []*int{&n.A, &n.B, &n.C}[:a.reads] {
			*field = next(i)
		}
		switch op {
		case api.OpPlace:
			n.K = next(places(k.Form))
		case api.OpNum, api.OpMulK:
			n.K = []int{-3, -1, 0, 1, 2, 5, 31, 255, next(100)}[next(9)]
		case api.OpMulS:
			n.K = []int{1, 171, 1 << 20, 1431655766, 1 << 40}[next(5)]
		default:
			n.K = next(min(a.high, 255) + 1)
		}
		c.Insts = append(c.Insts, n)
	}
	return c
}

func TestCodesAtRandom(t *testing.T) {
	next := draw(11)
	got := map[api.Errno]int{}
	for range 6000 {
		k := api.Kind{Form: next(2), Depth: 1 + next(16)}
		c := sketch(next, k, 1+next(12))
		for seed := range uint(5) {
			_, e := modelled(t, c, windowOf(k, seed))
			got[e]++
		}
		taken(t, c)
	}
	for e, least := range map[api.Errno]int{api.OK: 10000, api.ErrDivZero: 300, api.ErrOverflow: 1000} {
		if got[e] < least {
			t.Errorf("the answer %d came %d times", e, got[e])
		}
	}
}

func TestOneThingChanged(t *testing.T) {
	next := draw(5)
	got := map[api.Errno]int{}
	for range 60 {
		k := api.Kind{Form: next(2), Depth: 1 + next(16)}
		c := sketch(next, k, 1+next(6))
		w := windowOf(k, uint(next(9)))
		fields := []*int{&c.Out, &c.Kind.Form, &c.Kind.Depth}
		for i := range c.Insts {
			n := &c.Insts[i]
			fields = append(fields, &n.Op, &n.A, &n.B, &n.C, &n.K, &n.S)
		}
		was := copied(c)
		for _, field := range fields {
			old := *field
			for _, to := range append([]int{old - 1, old + 1, -1, 0, 1, 2, 5, 6, 31, 32, 44, 62, 63, 255, 256, len(c.Insts) - 1, len(c.Insts)}, far...) {
				*field = to
				_, e := modelled(t, c, w)
				got[e]++
				if code.Same(c, was) != (to == old) {
					t.Errorf("Same of %s and %s", shown(c), shown(was))
				}
			}
			*field = old
		}
	}
	for e, least := range map[api.Errno]int{api.OK: 1000, api.ErrCode: 5000, api.ErrInput: 20, api.ErrAhead: 20} {
		if got[e] < least {
			t.Errorf("the answer %d came %d times", e, got[e])
		}
	}
}

// P1

// Codes and windows of any numbers: whatever they are, there is an answer.
func TestWildCodes(t *testing.T) {
	next := draw(7)
	number := func() int {
		switch next(4) {
		case 0, 1:
			return 0
		case 2:
			return next(8) - 1
		}
		return append([]int{least, most, 1 << 31, 1 << 62, 255, 256}, far...)[next(6+len(far))]
	}
	for range 30000 {
		c := api.Code{Kind: api.Kind{Form: next(3), Depth: next(18)}, Out: number()}
		for range next(6) {
			c.Insts = append(c.Insts, api.Inst{Op: next(40) - 2, A: number(), B: number(), C: number(), K: number(), S: number()})
		}
		w := api.Window{X: number(), Y: number(), C: number()}
		for range []int{0, 30, 31, 44, 45}[next(5)] {
			w.P = append(w.P, next(2))
		}
		modelled(t, c, w)
	}
}

// overwritten fills a list, spare room included.
func overwritten(list []int) {
	list = list[:cap(list)]
	for i := range list {
		list[i] = -99
	}
}

func TestListsAreNewMemory(t *testing.T) {
	for _, source := range []api.Code{first(), coded(num(1)), coded(place(16), place(10), of(api.OpAdd, 0, 1), with(api.OpShrK, 2, 1, 0)), coded(place(1), place(2), place(3), of(api.OpMed, 0, 1, 2))} {
		c, codeStands := roomy(source)
		w, windowStands := roomyWindow(example())
		calls := []func() []int{
			func() []int { list, _ := code.Values(c, w); return list },
			func() []int { list, _ := code.Uses(c); return list },
		}
		for i := range c.Insts {
			calls = append(calls, func() []int { return code.Args(c.Insts[i]) })
		}
		var last [][]int
		for i, call := range calls {
			one, two := call(), call()
			kept := slices.Clone(two)
			if !slices.Equal(one, two) {
				t.Errorf("%s: %v, then %v", shown(c), one, two)
			}
			overwritten(one)
			if !slices.Equal(two, kept) {
				t.Errorf("%s: two lists of the call %d share memory", shown(c), i)
			}
			if !codeStands() || !windowStands() {
				t.Errorf("%s: a list of the call %d shares memory with the code or the window", shown(c), i)
			}
			if three := call(); !slices.Equal(three, kept) {
				t.Errorf("%s: what was written into a list of the call %d is seen: %v", shown(c), i, three)
			}
			last = append(last, two)
		}
		kept := slices.Clone(last)
		for i := range kept {
			kept[i] = slices.Clone(kept[i])
		}
		for i := range c.Insts {
			c.Insts[i] = api.Inst{}
		}
		for i := range w.P {
			w.P[i] = -5
		}
		for i := range last {
			if !slices.Equal(last[i], kept[i]) {
				t.Errorf("%s: what was written into the code or the window is seen", shown(source))
			}
		}
	}
}

// What a refused call was given stays as it was too; beside an error the list is empty.
func TestRefusedCallsLeaveAllAsItWas(t *testing.T) {
	codes := append(faults(), coded(place(44)), coded(num(1), num(0), of(api.OpDiv, 0, 1)), coded(num(least), of(api.OpAbs, 0)))
	for _, source := range codes {
		c, codeStands := roomy(source)
		for _, v := range append(strange(), example()) {
			w, windowStands := roomyWindow(v)
			list, e := code.Values(c, w)
			if len(list) != 0 || e == api.OK {
				t.Errorf("%s: %v, %d", shown(source), list, e)
			}
			if list, e := code.Uses(c); (e == api.OK) != (len(list) > 0) {
				t.Errorf("%s: %v, %d", shown(source), list, e)
			}
			if !codeStands() || !windowStands() {
				t.Errorf("%s, refused, was changed", shown(source))
			}
		}
	}
}

// What a call answers hangs on its arguments alone: not on calls ahead of it, refused ones among them, nor on the lists' room.
func TestOneCodeOneAnswer(t *testing.T) {
	next := draw(23)
	for range 100 {
		c := sketch(next, image, 1+next(9))
		w := windowOf(image, 6)
		want, f := code.Values(c, w)
		uses, _ := code.Uses(c)
		for range 3 {
			code.Values(coded(place(44)), w)
			code.Values(coded(num(0), of(api.OpDiv, 0, 0)), w)
			code.Values(c, api.Window{})
			code.Values(api.Code{}, api.Window{})
			code.Uses(api.Code{})
			d, v := c, w
			d.Insts, v.P = slices.Grow(slices.Clone(c.Insts), 50), slices.Grow(slices.Clone(w.P), 50)
			if list, e := code.Values(d, v); e != f || !slices.Equal(list, want) {
				t.Errorf("Values(%s): %v, %d, not %v, %d", shown(c), list, e, want, f)
			}
			if list, _ := code.Uses(d); !slices.Equal(list, uses) {
				t.Errorf("Uses(%s): %v, not %v", shown(c), list, uses)
			}
		}
	}
}

// The tests' own bounds are those of layer 3.
func TestTheTestsKinds(t *testing.T) {
	kinds(func(k api.Kind) {
		low, high, border := samples(k)
		if low != kind.Low(k) || high != kind.High(k) || border != kind.Border(k) || places(k.Form) != kind.Count(k) {
			t.Errorf("%v: %d, %d, %d, %d places", k, low, high, border, places(k.Form))
		}
		for seed := range uint(50) {
			if w := windowOf(k, seed); !fits(k, w) || kind.Fits(k, w) != api.OK {
				t.Errorf("%v: %v doesn't fit", k, w)
			}
		}
	})
}
