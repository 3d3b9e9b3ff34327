package verify_test

import (
	"fmt"
	"maps"
	"math"
	"slices"
	"strings"
	"testing"

	"damask/api"
	"damask/check"
	"damask/code"
	"damask/kind"
	"damask/lower"
	"damask/parse"
	"damask/span"
	"damask/verify"
)

var (
	image = api.Kind{Form: api.Image, Depth: 8}
	sound = api.Kind{Form: api.Sound, Depth: 16}
)

// all are the operators of register code, in one order.
var all = slices.Sorted(maps.Keys(operators))

// far are numbers far from all that may stand in a code.
var far = []int{math.MinInt, math.MinInt + 1, -1 << 62, -1 << 32, least - 1, 1 << 32, 1<<32 + 1, 1<<62 + 1, math.MaxInt - 1, math.MaxInt}

// kinds goes over all kinds that may be.
func kinds(do func(k api.Kind)) {
	for form := range 2 {
		for depth := 1; depth <= 16; depth++ {
			do(api.Kind{Form: form, Depth: depth})
		}
	}
}

// The chapter's examples

func TestExamples(t *testing.T) {
	taken(t, coded(place(16), of(api.OpNeg, 0)), 2, "0:255 -255:0")
	taken(t, coded(in(api.InX), with(api.OpShlK, 0, 3, 0), with(api.OpAndK, 1, 7, 0), with(api.OpMulS, 0, 1431655766, 32)), 4, "0:4095 0:32760 0:7 0:1365")
	refused(t, coded(place(44)), api.ErrAhead)
	refused(t, coded(num(0), of(api.OpDiv, 0, 0), place(44)), api.ErrAhead)
	refused(t, coded(num(0), of(api.OpDiv, 0, 0)), api.ErrDivZero)
	refused(t, coded(num(1<<30), with(api.OpShlK, 0, 1, 0)), api.ErrOverflow)
	refused(t, coded(quotients(50)...), api.ErrCost)
}

// quotients answers two ones and so many divisions of the one by the other: 4 each, and 2.
func quotients(count int) []api.Inst {
	return append([]api.Inst{num(1), num(1)}, slices.Repeat([]api.Inst{of(api.OpDiv, 0, 1)}, count)...)
}

// 13.1: codes that may not be

func TestKindsThatMayNotBe(t *testing.T) {
	odd := []int{math.MinInt, -1 << 32, -17, -16, -8, -1, 0, 1, 2, 3, 8, 16, 17, 18, 256, 1 << 32, 1<<32 + 1, 1<<32 + 8, math.MaxInt}
	count := 0
	for _, form := range odd {
		for _, depth := range odd {
			k := api.Kind{Form: form, Depth: depth}
			for _, c := range []api.Code{codedFor(k, num(1)), codedFor(k, in(3)), codedFor(k, place(0)), codedFor(k, place(0), with(api.OpMulK, 0, 3, 0))} {
				if !mayBe(k) {
					refused(t, c, api.ErrCode)
					continue
				}
				count++
				if _, e := modelled(t, c); e != api.OK {
					t.Errorf("Verify(%s): %d", shown(c), e)
				}
			}
			if !mayBe(k) {
				refused(t, codedFor(k, place(44)), api.ErrCode)
				refused(t, codedFor(k, num(0), of(api.OpDiv, 0, 0)), api.ErrCode)
				refused(t, codedFor(k, quotients(50)...), api.ErrCode)
			}
		}
	}
	if count != 2*5*4 {
		t.Errorf("%d codes are taken", count)
	}
}

func TestHowManyInstructions(t *testing.T) {
	for count := 1; count <= 200; count++ {
		taken(t, coded(noughts(count)...), count, strings.Repeat("0 ", count))
	}
	for _, count := range []int{201, 202, 255, 256, 257, 1000, 1 << 16} {
		for _, out := range []int{0, 1, 199, 200, count - 1} {
			refused(t, api.Code{Kind: image, Insts: noughts(count), Out: out}, api.ErrCode)
		}
	}
	for _, list := range [][]api.Inst{nil, {}, noughts(3)[:0]} {
		for _, out := range []int{-1, 0, 1} {
			refused(t, api.Code{Kind: image, Insts: list, Out: out}, api.ErrCode)
			refused(t, api.Code{Insts: list, Out: out}, api.ErrCode)
		}
	}
}

func TestOut(t *testing.T) {
	for _, count := range []int{1, 2, 3, 100, 199, 200} {
		for out := range count {
			taken(t, api.Code{Kind: image, Insts: noughts(count), Out: out}, count, strings.Repeat("0 ", count))
		}
		for _, out := range append([]int{-2, -1, count, count + 1, 1 << 31, least, 1<<32 + 1}, far...) {
			refused(t, api.Code{Kind: image, Insts: noughts(count), Out: out}, api.ErrCode)
		}
	}
	// Also where Out is a register's number in the code's spare room.
	refused(t, api.Code{Kind: image, Insts: noughts(5)[:3], Out: 3}, api.ErrCode)
}

func TestOps(t *testing.T) {
	may := 0
	for op := -300; op <= 300; op++ {
		if _, ok := operators[op]; ok {
			may++
			if _, e := modelled(t, coded(num(1), plain(op, 1))); e != api.OK {
				t.Errorf("the operator %d: %d", op, e)
			}
			continue
		}
		for i := range 3 {
			list := noughts(3)
			list[i] = of(op)
			refused(t, coded(list...), api.ErrCode)
		}
	}
	if may != 32 || len(operators) != 32 {
		t.Errorf("%d operators may be, %d are asked", may, len(operators))
	}
	for _, op := range append([]int{1<<31 + api.OpAdd, 1<<32 + api.OpNum, 1<<32 + api.OpNeg, -1<<32 + api.OpPlace}, far...) {
		refused(t, coded(num(1), of(op)), api.ErrCode)
		refused(t, coded(of(op)), api.ErrCode)
	}
}

// Registers at the instruction's own number, behind it, below 0 and far away; and in parts that the operator hasn't.
func TestRegisters(t *testing.T) {
	for _, op := range all {
		reads := operators[op].reads
		for _, i := range []int{0, 1, 2, 5} {
			list := append(slices.Repeat([]api.Inst{num(1)}, i), plain(op, i))
			list = append(list, num(1), num(1), num(1))
			if reads > 0 && i == 0 {
				list[0] = of(op, make([]int, reads)...)
				list[0].K = plain(op, 0).K
				refused(t, coded(list...), api.ErrCode)
				continue
			}
			for part := range 3 {
				c := coded(slices.Clone(list)...)
				n := &c.Insts[i]
				field := []*int{&n.A, &n.B, &n.C}[part]
				for r := range i {
					*field = r
					_, e := modelled(t, c)
					if want := map[bool]api.Errno{true: api.OK, false: api.ErrCode}[part < reads || r == 0]; e != want {
						t.Errorf("%s: %d, not %d", shown(c), e, want)
					}
				}
				for _, r := range append([]int{-2, -1, i, i + 1, i + 2, i + 3, i + 4, 255, 256, 1 << 31}, far...) {
					if *field = r; r != 0 {
						refused(t, c, api.ErrCode)
					}
				}
			}
		}
	}
}

// Each register is told from all others: the last instruction of a code as long as may be reads each of them.
func TestRegistersFarAhead(t *testing.T) {
	var list []api.Inst
	for i := range 199 {
		list = append(list, num(3*i+1))
	}
	last := func(n api.Inst) api.Span {
		r, e := modelled(t, coded(append(slices.Clone(list), n)...))
		if e != api.OK || len(r.Spans) != 200 {
			t.Fatalf("%v as the last: %v, %d", n, r, e)
		}
		return r.Spans[199]
	}
	for r := range 199 {
		x, other := 3*r+1, 198-r
		y := 3*other + 1
		for _, c := range []struct {
			n    api.Inst
			want int
		}{
			{of(api.OpNeg, r), -x}, {with(api.OpMulK, r, 5, 0), 5 * x}, {with(api.OpMulS, r, 1<<20, 18), 4 * x},
			{of(api.OpSub, r, other), x - y}, {of(api.OpSub, other, r), y - x}, {of(api.OpMul, r, r), x * x},
			{of(api.OpSel, 0, r, other), x}, {of(api.OpSel, 0, other, r), y}, {of(api.OpMed, r, r, other), x}, {of(api.OpClamp, 0, r, other), min(x, y)},
		} {
			if got := last(c.n); got != only(c.want) {
				t.Errorf("%v comes to %v, not %d", c.n, got, c.want)
			}
		}
	}
	refused(t, coded(append(slices.Clone(list), of(api.OpNeg, 199))...), api.ErrCode)
	refused(t, coded(append(slices.Clone(list), of(api.OpNeg, 200))...), api.ErrCode)
}

func TestConstantsThatMayNotBe(t *testing.T) {
	for _, op := range all {
		a := operators[op]
		c := coded(num(1), plain(op, 1), num(2))
		n := &c.Insts[1]
		for _, n.S = range []int{0, a.shift / 2, a.shift} {
			for _, n.K = range []int{a.low - 2, a.low - 1, a.high + 1, a.high + 2, math.MinInt, math.MaxInt, -1<<32 + a.low, -1 << 62} {
				refused(t, c, api.ErrCode)
			}
			for _, n.K = range []int{a.low, a.low/2 + a.high/2, a.high} {
				if _, e := modelled(t, c); e == api.ErrCode {
					t.Errorf("%s may be", shown(c))
				}
			}
		}
		for _, n.K = range []int{a.low, a.high} {
			for _, n.S = range []int{math.MinInt, least, -64, -1, a.shift + 1, a.shift + 2, 64, 1 << 31, 1 << 32, 1<<32 + a.shift, 1 << 62, math.MaxInt} {
				refused(t, c, api.ErrCode)
			}
		}
	}
}

// One fault is enough, wherever it stands, Out's register or not.
func TestFaultsAnywhere(t *testing.T) {
	faults := map[api.Errno][]api.Inst{
		api.ErrCode:     {of(api.OpUse), of(0), num(1 << 31), in(6), place(256), of(api.OpNeg, 200), with(api.OpShlK, 0, 32, 0)},
		api.ErrAhead:    {place(44), place(255)},
		api.ErrDivZero:  {of(api.OpDiv, 0, 0), of(api.OpMod, 0, 0)},
		api.ErrOverflow: {of(api.OpNeg, 1), of(api.OpAbs, 1), with(api.OpMulK, 1, -1, 0)},
	}
	for e, list := range faults {
		for _, bad := range list {
			for _, count := range []int{3, 5, 100, 195} {
				for _, i := range []int{2, count / 2, count - 1} {
					insts := noughts(count)
					insts[1] = num(least)
					insts[max(i, 2)] = bad
					for _, out := range []int{0, i, count - 1} {
						refused(t, api.Code{Kind: image, Insts: insts, Out: out}, e)
					}
				}
			}
		}
	}
}

// 13.1: places ahead

func TestPlaces(t *testing.T) {
	kinds(func(k api.Kind) {
		count := map[int]int{api.Image: 44, api.Sound: 31}[k.Form]
		s, _ := samples(k)
		text := fmt.Sprintf("%d:%d", s.Lo, s.Hi)
		for n := range 256 {
			if n < count {
				taken(t, codedFor(k, place(n)), 1, text)
				taken(t, codedFor(k, in(api.InC), place(n), in(api.InC)), 3, "0:3 "+text+" 0:3")
				continue
			}
			refused(t, codedFor(k, place(n)), api.ErrAhead)
			refused(t, codedFor(k, num(1), place(n), place(0)), api.ErrAhead)
			refused(t, codedFor(k, place(count-1), place(n)), api.ErrAhead)
		}
		for _, n := range append([]int{-1, -44, 256, 257, 300}, far...) {
			refused(t, codedFor(k, place(n)), api.ErrCode)
		}
		var list []api.Inst
		for n := range count {
			list = append(list, place(n))
		}
		taken(t, codedFor(k, list...), count, strings.Repeat(text+" ", count))
		refused(t, codedFor(k, append(list, place(count))...), api.ErrAhead)
	})
}

func TestPlacesByHand(t *testing.T) {
	for _, c := range []struct {
		k     api.Kind
		last  int
		spans string
	}{
		{api.Kind{Form: api.Image, Depth: 1}, 43, "0:1"}, {api.Kind{Form: api.Image, Depth: 2}, 43, "0:3"}, {api.Kind{Form: api.Image, Depth: 8}, 43, "0:255"}, {api.Kind{Form: api.Image, Depth: 16}, 43, "0:65535"},
		{api.Kind{Form: api.Sound, Depth: 1}, 30, "-1:0"}, {api.Kind{Form: api.Sound, Depth: 2}, 30, "-2:1"}, {api.Kind{Form: api.Sound, Depth: 8}, 30, "-128:127"}, {api.Kind{Form: api.Sound, Depth: 16}, 30, "-32768:32767"},
	} {
		taken(t, codedFor(c.k, place(c.last)), 1, c.spans)
		refused(t, codedFor(c.k, place(c.last+1)), api.ErrAhead)
		refused(t, codedFor(c.k, place(255)), api.ErrAhead)
		refused(t, codedFor(c.k, place(256)), api.ErrCode)
	}
}

// 13.1: numbers and inputs

func TestNumbers(t *testing.T) {
	kinds(func(k api.Kind) {
		taken(t, codedFor(k, num(least), num(least+1), num(-65536), num(-2), num(-1), num(0), num(1), num(255), num(65536), num(most-1), num(most)), 11,
			"least -2147483647 -65536 -2 -1 0 1 255 65536 2147483646 most")
		refused(t, codedFor(k, num(least-1)), api.ErrCode)
		refused(t, codedFor(k, num(most+1)), api.ErrCode)
	})
}

func TestInputs(t *testing.T) {
	for _, c := range []struct {
		k     api.Kind
		spans string
	}{
		{api.Kind{Form: api.Image, Depth: 1}, "0:4095 0:4095 0:3 0 1 1"},
		{api.Kind{Form: api.Image, Depth: 2}, "0:4095 0:4095 0:3 0 3 2"},
		{api.Kind{Form: api.Image, Depth: 8}, "0:4095 0:4095 0:3 0 255 128"},
		{api.Kind{Form: api.Image, Depth: 15}, "0:4095 0:4095 0:3 0 32767 16384"},
		{api.Kind{Form: api.Image, Depth: 16}, "0:4095 0:4095 0:3 0 65535 32768"},
		{api.Kind{Form: api.Sound, Depth: 1}, "0:1048575 0 0:3 -1 0 0"},
		{api.Kind{Form: api.Sound, Depth: 2}, "0:1048575 0 0:3 -2 1 0"},
		{api.Kind{Form: api.Sound, Depth: 8}, "0:1048575 0 0:3 -128 127 0"},
		{api.Kind{Form: api.Sound, Depth: 15}, "0:1048575 0 0:3 -16384 16383 0"},
		{api.Kind{Form: api.Sound, Depth: 16}, "0:1048575 0 0:3 -32768 32767 0"},
	} {
		taken(t, codedFor(c.k, in(0), in(1), in(2), in(3), in(4), in(5)), 6, c.spans)
		for n, text := range strings.Fields(c.spans) {
			taken(t, codedFor(c.k, in(n)), 1, text)
		}
		refused(t, codedFor(c.k, in(6)), api.ErrCode)
		refused(t, codedFor(c.k, in(-1)), api.ErrCode)
	}
}

// The same code is taken for one kind and refused for another.
func TestErrorsByTheKind(t *testing.T) {
	for _, c := range []struct {
		list   []api.Inst
		errors [4]api.Errno
	}{
		{[]api.Inst{place(30)}, [4]api.Errno{}},
		{[]api.Inst{place(31)}, [4]api.Errno{api.OK, api.OK, api.ErrAhead, api.ErrAhead}},
		{[]api.Inst{in(api.InX), of(api.OpMul, 0, 0)}, [4]api.Errno{api.OK, api.OK, api.ErrOverflow, api.ErrOverflow}},
		{[]api.Inst{in(api.InMid), of(api.OpDiv, 0, 0)}, [4]api.Errno{api.OK, api.OK, api.ErrDivZero, api.ErrDivZero}},
		{[]api.Inst{in(api.InLo), of(api.OpMod, 0, 0)}, [4]api.Errno{api.ErrDivZero, api.ErrDivZero, api.OK, api.OK}},
		{[]api.Inst{in(api.InHi), with(api.OpShlK, 0, 16, 0)}, [4]api.Errno{api.OK, api.ErrOverflow, api.OK, api.OK}},
		{[]api.Inst{place(0), with(api.OpMulK, 0, 65536, 0)}, [4]api.Errno{api.OK, api.ErrOverflow, api.OK, api.OK}},
		{[]api.Inst{place(0), with(api.OpMulK, 0, -65537, 0)}, [4]api.Errno{api.OK, api.ErrOverflow, api.OK, api.ErrOverflow}},
		{[]api.Inst{place(0), of(api.OpMul, 0, 0), of(api.OpAdd, 1, 1)}, [4]api.Errno{api.OK, api.ErrOverflow, api.OK, api.ErrOverflow}},
	} {
		for i, k := range []api.Kind{{Form: api.Image, Depth: 1}, {Form: api.Image, Depth: 16}, {Form: api.Sound, Depth: 1}, {Form: api.Sound, Depth: 16}} {
			if _, e := modelled(t, codedFor(k, c.list...)); e != c.errors[i] {
				t.Errorf("%v for %v: %d, not %d", c.list, k, e, c.errors[i])
			}
		}
	}
}

// 13.1: operators

// row is an operator with its constants and its arguments' spans, and the span that is asked for, or the error.
type row struct {
	op, k, s   int
	args, want string
	e          api.Errno
}

// part is how many instructions lay an argument.
const part = 9

// laid answers a code of {Sound, 16} whose registers 8, 17 and 26 have these spans: each of them any number of 32 bits, made of two places, and clamped.
func laid(spans [3]api.Span) []api.Inst {
	var list []api.Inst
	for i, s := range spans {
		r := part * i
		list = append(list, place(2*i), with(api.OpShlK, r, 16, 0), place(2*i+1), num(32768), of(api.OpAdd, r+2, r+3), of(api.OpAdd, r+1, r+4), num(s.Lo), num(s.Hi), of(api.OpClamp, r+5, r+6, r+7))
	}
	return list
}

// register answers where laid puts the argument of this number.
func register(i int) int { return part*i + part - 1 }

// placed answers a window in which the registers of laid come to these numbers, if they are of their spans.
func placed(numbers [3]int) api.Window {
	w := windowOf(sound, 3)
	for i, x := range numbers {
		w.P[2*i], w.P[2*i+1] = x>>16, x&65535-32768
	}
	return w
}

// orders are the orders in which three registers may be read.
var orders = [][3]int{{0, 1, 2}, {0, 2, 1}, {1, 0, 2}, {1, 2, 0}, {2, 0, 1}, {2, 1, 0}}

// asked answers the code of a row, its argument number i standing where laid puts the number order[i].
func asked(t *testing.T, q row, order [3]int) api.Code {
	t.Helper()
	args := spansIn(t, q.args)
	if len(args) != operators[q.op].reads {
		t.Fatalf("the operator %d has %d arguments in %q", q.op, operators[q.op].reads, q.args)
	}
	n := api.Inst{Op: q.op, K: q.k, S: q.s}
	var spans [3]api.Span
	for i, field := range []*int{&n.A, &n.B, &n.C}[:len(args)] {
		spans[order[i]] = args[i]
		*field = register(order[i])
	}
	return codedFor(sound, append(laid(spans), n)...)
}

// holdsRow asks a row in every order of its registers, and runs it on windows that bring the arguments to their ends and between.
func holdsRow(t *testing.T, q row) {
	t.Helper()
	for _, order := range orders {
		c := asked(t, q, order)
		if q.e != api.OK {
			refused(t, c, q.e)
			continue
		}
		r, e := modelled(t, c)
		if e != api.OK || r.Cost != 3*part+cost(q.op) || r.Spans[3*part] != spansIn(t, q.want)[0] {
			t.Errorf("the operator %d (%d, %d) of %s, in the order %v: %v, %d, not %s", q.op, q.k, q.s, q.args, order, r, e, q.want)
			return
		}
	}
	if q.e == api.OK {
		c := asked(t, q, orders[0])
		r, _ := verify.Verify(c)
		runs(t, c, r, spansIn(t, q.args))
	}
}

// runs runs a code of laid on windows that bring its arguments to their ends and between.
func runs(t *testing.T, c api.Code, r api.Report, args []api.Span) {
	t.Helper()
	var numbers [3][]int
	for i := range numbers {
		numbers[i] = []int{0}
		if i < len(args) {
			s := args[i]
			numbers[i] = slices.Compact(slices.Sorted(slices.Values([]int{s.Lo, min(s.Lo+1, s.Hi), s.Lo + (s.Hi-s.Lo)/3, max(min(0, s.Hi), s.Lo), max(s.Hi-1, s.Lo), s.Hi})))
		}
	}
	for _, x := range numbers[0] {
		for _, y := range numbers[1] {
			for _, z := range numbers[2] {
				w := placed([3]int{x, y, z})
				harmless(t, c, r, w)
				values, _ := code.Values(c, w)
				for i, want := range []int{x, y, z}[:len(args)] {
					if len(values) == 0 || values[register(i)] != want {
						t.Fatalf("the argument %d isn't %d: %v", i, want, values)
					}
				}
			}
		}
	}
}

// The spans by hand.

var rowsOfOne = []row{
	{op: api.OpNeg, args: "0:255", want: "-255:0"}, {op: api.OpNeg, args: "-3:7", want: "-7:3"}, {op: api.OpNeg, args: "5", want: "-5"}, {op: api.OpNeg, args: "-2147483647:most", want: "-2147483647:most"},
	{op: api.OpNeg, args: "least", e: api.ErrOverflow}, {op: api.OpNeg, args: "least:0", e: api.ErrOverflow}, {op: api.OpNeg, args: "least:most", e: api.ErrOverflow},
	{op: api.OpAbs, args: "0:255", want: "0:255"}, {op: api.OpAbs, args: "3:7", want: "3:7"}, {op: api.OpAbs, args: "-3:7", want: "0:7"}, {op: api.OpAbs, args: "-9:7", want: "0:9"}, {op: api.OpAbs, args: "-9:-4", want: "4:9"}, {op: api.OpAbs, args: "-9:0", want: "0:9"}, {op: api.OpAbs, args: "-2147483647:5", want: "0:most"},
	{op: api.OpAbs, args: "least", e: api.ErrOverflow}, {op: api.OpAbs, args: "least:-5", e: api.ErrOverflow}, {op: api.OpAbs, args: "least:5", e: api.ErrOverflow},
	{op: api.OpSgn, args: "-9:9", want: "-1:1"}, {op: api.OpSgn, args: "0:9", want: "0:1"}, {op: api.OpSgn, args: "1:9", want: "1"}, {op: api.OpSgn, args: "-9:0", want: "-1:0"}, {op: api.OpSgn, args: "-9:-1", want: "-1"}, {op: api.OpSgn, args: "0", want: "0"}, {op: api.OpSgn, args: "least:most", want: "-1:1"},
	{op: api.OpShlK, k: 3, args: "0:4095", want: "0:32760"}, {op: api.OpShlK, k: 0, args: "-5:3", want: "-5:3"}, {op: api.OpShlK, k: 31, args: "-1:0", want: "least:0"}, {op: api.OpShlK, k: 31, args: "0", want: "0"}, {op: api.OpShlK, k: 30, args: "-2:1", want: "least:1073741824"}, {op: api.OpShlK, k: 0, args: "least:most", want: "least:most"},
	{op: api.OpShlK, k: 31, args: "1", e: api.ErrOverflow}, {op: api.OpShlK, k: 31, args: "0:1", e: api.ErrOverflow}, {op: api.OpShlK, k: 31, args: "-2:0", e: api.ErrOverflow}, {op: api.OpShlK, k: 1, args: "1073741824", e: api.ErrOverflow}, {op: api.OpShlK, k: 1, args: "least:0", e: api.ErrOverflow},
	{op: api.OpShrK, k: 1, args: "-7:7", want: "-4:3"}, {op: api.OpShrK, k: 0, args: "-7:7", want: "-7:7"}, {op: api.OpShrK, k: 31, args: "least:most", want: "-1:0"}, {op: api.OpShrK, k: 1, args: "least:most", want: "-1073741824:1073741823"}, {op: api.OpShrK, k: 4, args: "48:50", want: "3"}, {op: api.OpShrK, k: 30, args: "0:most", want: "0:1"},
	{op: api.OpAndK, k: 7, args: "0:4095", want: "0:7"}, {op: api.OpAndK, k: 7, args: "-5:3", want: "0:7"}, {op: api.OpAndK, k: 7, args: "0:5", want: "0:5"}, {op: api.OpAndK, k: 0, args: "-5:-1", want: "0"}, {op: api.OpAndK, k: 0, args: "0:5", want: "0"}, {op: api.OpAndK, k: most, args: "least:most", want: "0:most"}, {op: api.OpAndK, k: most, args: "2:9", want: "0:9"},
	{op: api.OpMulK, k: 5, args: "-3:4", want: "-15:20"}, {op: api.OpMulK, k: -5, args: "-3:4", want: "-20:15"}, {op: api.OpMulK, k: 0, args: "-3:4", want: "0"}, {op: api.OpMulK, k: least, args: "0:1", want: "least:0"}, {op: api.OpMulK, k: 1, args: "least:most", want: "least:most"}, {op: api.OpMulK, k: -1, args: "-2147483647:most", want: "-2147483647:most"}, {op: api.OpMulK, k: most, args: "-1:1", want: "-2147483647:most"}, {op: api.OpMulK, k: 32768, args: "-65536:65535", want: "least:2147450880"},
	{op: api.OpMulK, k: -1, args: "least", e: api.ErrOverflow}, {op: api.OpMulK, k: least, args: "0:2", e: api.ErrOverflow}, {op: api.OpMulK, k: least, args: "-1", e: api.ErrOverflow}, {op: api.OpMulK, k: 32768, args: "0:65536", e: api.ErrOverflow}, {op: api.OpMulK, k: most, args: "2", e: api.ErrOverflow},
	{op: api.OpMulS, k: 1431655766, s: 32, args: "0:4095", want: "0:1365"}, {op: api.OpMulS, k: 1431655766, s: 32, args: "-7:7", want: "-3:2"}, {op: api.OpMulS, k: 171, s: 9, args: "0:255", want: "0:85"}, {op: api.OpMulS, k: 171, s: 9, args: "-255:255", want: "-86:85"},
	{op: api.OpMulS, k: 1 << 62, s: 62, args: "-1:1", want: "-1:1"}, {op: api.OpMulS, k: 1 << 62, s: 0, args: "0", want: "0"}, {op: api.OpMulS, k: 1 << 62, s: 31, args: "-1", want: "least"}, {op: api.OpMulS, k: 1, s: 62, args: "-1:1", want: "-1:0"}, {op: api.OpMulS, k: 1, s: 0, args: "least:most", want: "least:most"}, {op: api.OpMulS, k: 1 << 31, s: 31, args: "least:most", want: "least:most"}, {op: api.OpMulS, k: 1 << 31, s: 62, args: "least:most", want: "-1:0"}, {op: api.OpMulS, k: 3, s: 0, args: "0:5", want: "0:15"},
	{op: api.OpMulS, k: 1 << 62, s: 62, args: "2", e: api.ErrOverflow}, {op: api.OpMulS, k: 1 << 62, s: 62, args: "0:2", e: api.ErrOverflow}, {op: api.OpMulS, k: 1 << 62, s: 62, args: "-2:0", e: api.ErrOverflow}, {op: api.OpMulS, k: 1 << 62, s: 31, args: "1", e: api.ErrOverflow}, {op: api.OpMulS, k: 1 << 62, s: 30, args: "-1:1", e: api.ErrOverflow}, {op: api.OpMulS, k: 1<<31 + 1, s: 62, args: "least", e: api.ErrOverflow}, {op: api.OpMulS, k: 2, s: 0, args: "0:most", e: api.ErrOverflow}, {op: api.OpMulS, k: 1 << 31, s: 30, args: "least:0", e: api.ErrOverflow}, {op: api.OpMulS, k: 1 << 62, s: 62, args: "least:most", e: api.ErrOverflow},
}

var rowsOfTwo = []row{
	{op: api.OpAdd, args: "0:255 0:255", want: "0:510"}, {op: api.OpAdd, args: "-3:4 10:20", want: "7:24"}, {op: api.OpAdd, args: "least:0 0:most", want: "least:most"}, {op: api.OpAdd, args: "least most", want: "-1"},
	{op: api.OpAdd, args: "most 1", e: api.ErrOverflow}, {op: api.OpAdd, args: "0:most 0:1", e: api.ErrOverflow}, {op: api.OpAdd, args: "-1:0 least:0", e: api.ErrOverflow},
	{op: api.OpSub, args: "0:255 0:255", want: "-255:255"}, {op: api.OpSub, args: "1:3 10:20", want: "-19:-7"}, {op: api.OpSub, args: "10:20 1:3", want: "7:19"}, {op: api.OpSub, args: "-1 least", want: "most"}, {op: api.OpSub, args: "0:most 0:most", want: "-2147483647:most"},
	{op: api.OpSub, args: "0 least", e: api.ErrOverflow}, {op: api.OpSub, args: "least:0 1:2", e: api.ErrOverflow}, {op: api.OpSub, args: "-1:0 least:0", e: api.ErrOverflow},
	{op: api.OpMul, args: "-128:127 0:255", want: "-32640:32385"}, {op: api.OpMul, args: "-3:2 -3:2", want: "-6:9"}, {op: api.OpMul, args: "2:3 -5:-4", want: "-15:-8"}, {op: api.OpMul, args: "-3:-2 -5:-4", want: "8:15"}, {op: api.OpMul, args: "0:65535 0:32768", want: "0:2147450880"}, {op: api.OpMul, args: "65536 -32768", want: "least"},
	{op: api.OpMul, args: "65536 32768", e: api.ErrOverflow}, {op: api.OpMul, args: "least -1", e: api.ErrOverflow}, {op: api.OpMul, args: "0:65536 0:32768", e: api.ErrOverflow}, {op: api.OpMul, args: "least:most 0:2", e: api.ErrOverflow},
	{op: api.OpDiv, args: "-128:127 2:3", want: "-64:63"}, {op: api.OpDiv, args: "7:9 2:4", want: "1:4"}, {op: api.OpDiv, args: "7:9 -4:-2", want: "-4:-1"}, {op: api.OpDiv, args: "-7:9 1:2", want: "-7:9"}, {op: api.OpDiv, args: "-7:9 -2:-1", want: "-9:7"}, {op: api.OpDiv, args: "least:0 1", want: "least:0"}, {op: api.OpDiv, args: "least -2", want: "1073741824"},
	{op: api.OpDiv, args: "1 0", e: api.ErrDivZero}, {op: api.OpDiv, args: "0:255 -128:127", e: api.ErrDivZero}, {op: api.OpDiv, args: "5 0:1", e: api.ErrDivZero}, {op: api.OpDiv, args: "5 -1:0", e: api.ErrDivZero}, {op: api.OpDiv, args: "least:most -1:0", e: api.ErrDivZero}, {op: api.OpDiv, args: "least -1", e: api.ErrOverflow}, {op: api.OpDiv, args: "least:0 -5:-1", e: api.ErrOverflow},
	{op: api.OpMod, args: "-128:127 10", want: "-9:9"}, {op: api.OpMod, args: "2:5 100", want: "0:5"}, {op: api.OpMod, args: "-128:127 -10:-3", want: "-9:9"}, {op: api.OpMod, args: "-5:-2 4", want: "-3:0"}, {op: api.OpMod, args: "0:9 1", want: "0"}, {op: api.OpMod, args: "least -1", want: "0"}, {op: api.OpMod, args: "least:most least", want: "-2147483647:most"},
	{op: api.OpMod, args: "1 0", e: api.ErrDivZero}, {op: api.OpMod, args: "0 0", e: api.ErrDivZero}, {op: api.OpMod, args: "0:255 -128:127", e: api.ErrDivZero}, {op: api.OpMod, args: "5 0:1", e: api.ErrDivZero}, {op: api.OpMod, args: "5 least:0", e: api.ErrDivZero},
	{op: api.OpShl, args: "-128:127 1:4", want: "-2048:2032"}, {op: api.OpShl, args: "0:255 0:23", want: "0:2139095040"}, {op: api.OpShl, args: "3:5 2", want: "12:20"}, {op: api.OpShl, args: "-1:0 0:31", want: "least:0"}, {op: api.OpShl, args: "0 0:31", want: "0"}, {op: api.OpShl, args: "-1 31", want: "least"},
	{op: api.OpShl, args: "0:255 0:24", e: api.ErrOverflow}, {op: api.OpShl, args: "0 0:32", e: api.ErrOverflow}, {op: api.OpShl, args: "0 -1:3", e: api.ErrOverflow}, {op: api.OpShl, args: "1 31", e: api.ErrOverflow}, {op: api.OpShl, args: "5 32", e: api.ErrOverflow}, {op: api.OpShl, args: "0 least:most", e: api.ErrOverflow},
	{op: api.OpShr, args: "-128:127 1:4", want: "-64:63"}, {op: api.OpShr, args: "0:255 0:31", want: "0:255"}, {op: api.OpShr, args: "-9:-3 0:2", want: "-9:-1"}, {op: api.OpShr, args: "least:most 31", want: "-1:0"}, {op: api.OpShr, args: "48:50 4", want: "3"},
	{op: api.OpShr, args: "0 32", e: api.ErrOverflow}, {op: api.OpShr, args: "5 0:32", e: api.ErrOverflow}, {op: api.OpShr, args: "5 -1:0", e: api.ErrOverflow},
	{op: api.OpAnd, args: "-128:127 0:255", want: "0:255"}, {op: api.OpAnd, args: "0:9 0:5", want: "0:5"}, {op: api.OpAnd, args: "0:9 -3:-1", want: "0:9"}, {op: api.OpAnd, args: "-3:-1 0:9", want: "0:9"}, {op: api.OpAnd, args: "-8:3 -3:20", want: "-32:31"}, {op: api.OpAnd, args: "-8:-1 -8:7", want: "-8:7"}, {op: api.OpAnd, args: "-1 -1", want: "-1:0"}, {op: api.OpAnd, args: "least:-1 -1", want: "least:most"},
	{op: api.OpOr, args: "4:9 1:2", want: "4:15"}, {op: api.OpOr, args: "1:2 4:9", want: "4:15"}, {op: api.OpOr, args: "0 0", want: "0"}, {op: api.OpOr, args: "16 3", want: "16:31"}, {op: api.OpOr, args: "-8:3 0:20", want: "-32:31"}, {op: api.OpOr, args: "0:256 5", want: "5:511"}, {op: api.OpOr, args: "-1 0", want: "-1:0"}, {op: api.OpOr, args: "0:most 7", want: "7:most"},
	{op: api.OpXor, args: "4:9 1:2", want: "0:15"}, {op: api.OpXor, args: "0 0", want: "0"}, {op: api.OpXor, args: "-1 5", want: "-8:7"}, {op: api.OpXor, args: "0:most 0", want: "0:most"}, {op: api.OpXor, args: "least 0", want: "least:most"},
	{op: api.OpLt, args: "3:4 1:3", want: "0"}, {op: api.OpLt, args: "1:2 3:4", want: "1"}, {op: api.OpLt, args: "1:3 3:4", want: "0:1"}, {op: api.OpLt, args: "3 3", want: "0"}, {op: api.OpLt, args: "least most", want: "1"},
	{op: api.OpLe, args: "3:4 1:3", want: "0:1"}, {op: api.OpLe, args: "1:3 3:4", want: "1"}, {op: api.OpLe, args: "4:5 1:3", want: "0"}, {op: api.OpLe, args: "3 3", want: "1"},
	{op: api.OpGt, args: "3:4 1:3", want: "0:1"}, {op: api.OpGt, args: "4:5 1:3", want: "1"}, {op: api.OpGt, args: "1:3 3:4", want: "0"}, {op: api.OpGt, args: "3 3", want: "0"},
	{op: api.OpGe, args: "3:4 1:3", want: "1"}, {op: api.OpGe, args: "1:3 3:4", want: "0:1"}, {op: api.OpGe, args: "1:2 3:4", want: "0"}, {op: api.OpGe, args: "3 3", want: "1"},
	{op: api.OpEq, args: "3 3", want: "1"}, {op: api.OpEq, args: "3 4", want: "0"}, {op: api.OpEq, args: "1:3 3:4", want: "0:1"}, {op: api.OpEq, args: "1:2 3:4", want: "0"}, {op: api.OpEq, args: "1:2 1:2", want: "0:1"},
	{op: api.OpNe, args: "3 3", want: "0"}, {op: api.OpNe, args: "3 4", want: "1"}, {op: api.OpNe, args: "1:3 3:4", want: "0:1"}, {op: api.OpNe, args: "1:2 3:4", want: "1"}, {op: api.OpNe, args: "1:2 1:2", want: "0:1"},
	{op: api.OpMin, args: "-3:7 0:5", want: "-3:5"}, {op: api.OpMin, args: "0:9 2:3", want: "0:3"}, {op: api.OpMin, args: "least:most 4:5", want: "least:5"}, {op: api.OpMin, args: "1:2 4:5", want: "1:2"},
	{op: api.OpMax, args: "-3:7 0:5", want: "0:7"}, {op: api.OpMax, args: "0:9 2:3", want: "2:9"}, {op: api.OpMax, args: "least:most 4:5", want: "4:most"}, {op: api.OpMax, args: "1:2 4:5", want: "4:5"},
}

var rowsOfThree = []row{
	{op: api.OpClamp, args: "least:most 0 255", want: "0:255"}, {op: api.OpClamp, args: "-50:300 0:2 250:255", want: "0:255"}, {op: api.OpClamp, args: "3 9 5", want: "5"}, {op: api.OpClamp, args: "1:3 7:9 4:5", want: "4:5"}, {op: api.OpClamp, args: "10:20 0 30", want: "10:20"}, {op: api.OpClamp, args: "10:20 15:40 30", want: "15:30"},
	{op: api.OpMed, args: "0:255 0:255 -255:510", want: "0:255"}, {op: api.OpMed, args: "1:3 5:6 9", want: "5:6"}, {op: api.OpMed, args: "9 1:3 5:6", want: "5:6"}, {op: api.OpMed, args: "5:6 9 1:3", want: "5:6"}, {op: api.OpMed, args: "1:9 2:3 0:20", want: "1:9"}, {op: api.OpMed, args: "least most -7:8", want: "-7:8"},
	{op: api.OpSel, args: "1:3 -7:2 5:6", want: "-7:2"}, {op: api.OpSel, args: "-3:-1 -7:2 5:6", want: "-7:2"}, {op: api.OpSel, args: "0 -7:2 5:6", want: "5:6"}, {op: api.OpSel, args: "0:1 -7:2 5:6", want: "-7:6"}, {op: api.OpSel, args: "-1:1 5:6 -7:2", want: "-7:6"}, {op: api.OpSel, args: "-1:0 3 3", want: "3"}, {op: api.OpSel, args: "0:255 least most", want: "least:most"},
}

func TestOperatorsByHand(t *testing.T) {
	count := map[int]int{}
	for _, q := range slices.Concat(rowsOfOne, rowsOfTwo, rowsOfThree) {
		holdsRow(t, q)
		count[q.op]++
	}
	for _, op := range all {
		if operators[op].reads > 0 && count[op] < 4 {
			t.Errorf("the operator %d is asked %d times", op, count[op])
		}
	}
}

// All that an operator reads is one register: what it knows of itself isn't seen.
func TestOneRegisterTwice(t *testing.T) {
	for _, q := range []row{
		{op: api.OpAdd, args: "0:255", want: "0:510"}, {op: api.OpAdd, args: "0:1073741824", e: api.ErrOverflow},
		{op: api.OpSub, args: "0:255", want: "-255:255"}, {op: api.OpSub, args: "7", want: "0"}, {op: api.OpSub, args: "least:0", e: api.ErrOverflow},
		{op: api.OpMul, args: "-3:2", want: "-6:9"}, {op: api.OpMul, args: "0:46340", want: "0:2147395600"}, {op: api.OpMul, args: "0:46341", e: api.ErrOverflow},
		{op: api.OpDiv, args: "1:255", want: "0:255"}, {op: api.OpDiv, args: "-9:-2", want: "0:4"}, {op: api.OpDiv, args: "0:255", e: api.ErrDivZero}, {op: api.OpDiv, args: "least:-1", e: api.ErrOverflow},
		{op: api.OpMod, args: "1:255", want: "0:254"}, {op: api.OpMod, args: "-9:-2", want: "-8:0"}, {op: api.OpMod, args: "-1:1", e: api.ErrDivZero},
		{op: api.OpShl, args: "0:3", want: "0:24"}, {op: api.OpShl, args: "0:31", e: api.ErrOverflow}, {op: api.OpShl, args: "-1:3", e: api.ErrOverflow},
		{op: api.OpShr, args: "0:31", want: "0:31"}, {op: api.OpShr, args: "0:32", e: api.ErrOverflow},
		{op: api.OpAnd, args: "-3:5", want: "-8:7"}, {op: api.OpAnd, args: "3:5", want: "0:5"}, {op: api.OpOr, args: "4:9", want: "4:15"}, {op: api.OpXor, args: "4:9", want: "0:15"},
		{op: api.OpLt, args: "1:2", want: "0:1"}, {op: api.OpLt, args: "3", want: "0"}, {op: api.OpLe, args: "1:2", want: "0:1"}, {op: api.OpLe, args: "3", want: "1"}, {op: api.OpGt, args: "1:2", want: "0:1"}, {op: api.OpGt, args: "3", want: "0"},
		{op: api.OpGe, args: "1:2", want: "0:1"}, {op: api.OpGe, args: "3", want: "1"}, {op: api.OpEq, args: "1:2", want: "0:1"}, {op: api.OpEq, args: "3", want: "1"}, {op: api.OpNe, args: "1:2", want: "0:1"}, {op: api.OpNe, args: "3", want: "0"},
		{op: api.OpMin, args: "-3:5", want: "-3:5"}, {op: api.OpMax, args: "-3:5", want: "-3:5"}, {op: api.OpClamp, args: "-3:5", want: "-3:5"}, {op: api.OpMed, args: "-3:5", want: "-3:5"}, {op: api.OpSel, args: "-3:5", want: "-3:5"}, {op: api.OpSel, args: "0", want: "0"},
	} {
		s := spansIn(t, q.args)[0]
		for i := range 3 {
			spans := [3]api.Span{only(-1), only(-2), only(-3)}
			spans[i] = s
			n := of(q.op, slices.Repeat([]int{register(i)}, operators[q.op].reads)...)
			c := codedFor(sound, append(laid(spans), n)...)
			if q.e != api.OK {
				refused(t, c, q.e)
				continue
			}
			r, e := modelled(t, c)
			if e != api.OK || r.Spans[3*part] != spansIn(t, q.want)[0] {
				t.Errorf("the operator %d of one register, %s: %v, %d, not %s", q.op, q.args, r, e, q.want)
			} else if i == 0 {
				runs(t, c, r, []api.Span{s})
			}
		}
	}
}

// Two of three parts are one register.
func TestTwoOfThreeParts(t *testing.T) {
	spans := [3]api.Span{{Lo: -1, Hi: 1}, {Lo: 5, Hi: 9}, {Lo: 20, Hi: 30}}
	a, b := register(0), register(1)
	for _, c := range []struct {
		n    api.Inst
		want string
	}{
		{of(api.OpSel, a, a, b), "-1:9"}, {of(api.OpSel, a, b, a), "-1:9"}, {of(api.OpSel, b, a, a), "-1:1"}, {of(api.OpSel, a, b, b), "5:9"}, {of(api.OpSel, b, b, a), "5:9"}, {of(api.OpSel, b, a, b), "-1:1"},
		{of(api.OpMed, a, a, b), "-1:1"}, {of(api.OpMed, a, b, b), "5:9"}, {of(api.OpMed, b, a, b), "5:9"}, {of(api.OpClamp, a, b, a), "-1:1"}, {of(api.OpClamp, a, a, b), "-1:1"}, {of(api.OpClamp, b, a, b), "5:9"}, {of(api.OpClamp, b, b, a), "-1:1"},
	} {
		list := append(laid(spans), c.n)
		if r, e := modelled(t, codedFor(sound, list...)); e != api.OK || r.Spans[3*part] != spansIn(t, c.want)[0] {
			t.Errorf("%v: %v, %d, not %s", c.n, r, e, c.want)
		}
	}
}

// Every operator of spans about its edges, with constants at theirs, held against the model.
func TestOperatorsOfSpans(t *testing.T) {
	many := []int{least, least + 1, -65536, -33, -8, -7, -1, 0, 1, 7, 8, 31, 32, 255, 46341, 1 << 30, most - 1, most}
	few := []int{least, -7, 0, 1, 31, most}
	spansOf := func(numbers []int) []api.Span {
		var list []api.Span
		for i, low := range numbers {
			for _, high := range numbers[i:] {
				list = append(list, api.Span{Lo: low, Hi: high})
			}
		}
		return list
	}
	ask := func(n api.Inst, spans ...api.Span) {
		for i, field := range []*int{&n.A, &n.B, &n.C}[:operators[n.Op].reads] {
			*field = register(i)
		}
		modelled(t, codedFor(sound, append(laid([3]api.Span(append(spans, api.Span{}, api.Span{})[:3])), n)...))
	}
	for _, op := range all {
		switch a := operators[op]; a.reads {
		case 1:
			for _, s := range spansOf(many) {
				for _, k := range slices.Compact([]int{a.low, min(a.low+1, a.high), a.low/2 + a.high/2, a.high}) {
					for _, shift := range slices.Compact([]int{0, min(1, a.shift), a.shift / 2, a.shift}) {
						ask(api.Inst{Op: op, K: k, S: shift}, s)
					}
				}
			}
		case 2:
			for _, x := range spansOf(few) {
				for _, y := range spansOf([]int{least, -2, -1, 0, 1, 31, 32, most}) {
					ask(api.Inst{Op: op}, x, y)
				}
			}
		case 3:
			for _, x := range spansOf([]int{-7, 0, most}) {
				for _, y := range spansOf([]int{least, 0, 5}) {
					for _, z := range spansOf([]int{-2, 3, most}) {
						ask(api.Inst{Op: op}, x, y, z)
					}
				}
			}
		}
	}
}

// 13.1: which error comes first

// ahead are the instructions in front of faulty ones; faulty are instructions that may stand behind them, by the error that they bring.
var ahead = []api.Inst{num(0), num(1), num(least)}

var faulty = map[api.Errno][]api.Inst{
	api.ErrCode:     {num(1 << 31), of(api.OpUse), of(0), place(256), in(6), of(api.OpNeg, 199), with(api.OpShrK, 0, 32, 0), with(api.OpMulS, 2, 1<<62, 63)},
	api.ErrAhead:    {place(44), place(255)},
	api.ErrDivZero:  {of(api.OpDiv, 1, 0), of(api.OpMod, 1, 0), of(api.OpDiv, 2, 0)},
	api.ErrOverflow: {of(api.OpNeg, 2), of(api.OpSub, 0, 2), of(api.OpShl, 1, 2), with(api.OpMulK, 2, 2, 0), with(api.OpMulS, 2, 1<<62, 62)},
}

// firstOf answers the error of a code with faults in this order.
func firstOf(faults ...api.Errno) api.Errno {
	for _, e := range []api.Errno{api.ErrCode, api.ErrAhead} {
		if slices.Contains(faults, e) {
			return e
		}
	}
	return faults[0]
}

func TestTwoErrors(t *testing.T) {
	// Cheap, and so dear that there is ErrCost, if nothing else is wrong: ahead of the faults and behind them.
	dear := slices.Repeat([]api.Inst{of(api.OpMod, 0, 1)}, 34)
	refused(t, coded(append(slices.Clone(ahead), dear...)...), api.ErrCost)
	for e, ones := range faulty {
		for _, one := range ones {
			refused(t, coded(append(slices.Clone(ahead), one, num(5))...), e)
			refused(t, coded(slices.Concat(ahead, dear, []api.Inst{one})...), e)
			refused(t, coded(slices.Concat(ahead, []api.Inst{one}, dear)...), e)
			for f, twos := range faulty {
				for _, two := range twos {
					for _, out := range []int{0, 3, 4, 5, 6} {
						c := api.Code{Kind: image, Insts: append(slices.Clone(ahead), one, num(5), two, num(6)), Out: out}
						refused(t, c, firstOf(e, f))
						c.Insts = append(c.Insts, dear...)
						refused(t, c, firstOf(e, f))
					}
				}
			}
		}
	}
}

func TestManyErrors(t *testing.T) {
	errors := []api.Errno{api.ErrCode, api.ErrAhead, api.ErrDivZero, api.ErrOverflow}
	for i := range 64 {
		list := []api.Errno{errors[i%4], errors[i/4%4], errors[i/16]}
		insts := slices.Clone(ahead)
		for j, e := range list {
			insts = append(insts, faulty[e][j%len(faulty[e])])
		}
		refused(t, coded(insts...), firstOf(list...))
	}
}

// The orders that the chapter names, written out.
func TestErrorsInOrder(t *testing.T) {
	zero, great := num(0), num(1<<30)
	div, shl := of(api.OpDiv, 1, 0), with(api.OpShlK, 1, 1, 0)
	for _, c := range []struct {
		list []api.Inst
		e    api.Errno
	}{
		{[]api.Inst{place(44), of(api.OpUse)}, api.ErrCode}, {[]api.Inst{of(api.OpUse), place(44)}, api.ErrCode}, {[]api.Inst{place(44), place(256)}, api.ErrCode},
		{[]api.Inst{zero, great, div, place(44)}, api.ErrAhead}, {[]api.Inst{zero, great, shl, place(44)}, api.ErrAhead}, {[]api.Inst{place(44), great, of(api.OpMod, 0, 1)}, api.ErrAhead},
		{[]api.Inst{zero, great, div, shl}, api.ErrDivZero}, {[]api.Inst{zero, great, shl, div}, api.ErrOverflow},
		// An operator's own: the divisor has 0, and the quotient might be too great.
		{[]api.Inst{place(16), num(least), of(api.OpSub, 0, 0), of(api.OpDiv, 1, 2)}, api.ErrDivZero},
		{append(quotients(50), num(1<<30), with(api.OpShlK, 52, 1, 0)), api.ErrOverflow}, {append(quotients(50), num(0), of(api.OpDiv, 0, 52)), api.ErrDivZero}, {append(quotients(50), place(44)), api.ErrAhead}, {append(quotients(50), of(api.OpUse)), api.ErrCode},
		{quotients(199), api.ErrCode}, {quotients(198), api.ErrCost},
	} {
		refused(t, coded(c.list...), c.e)
	}
}

// An instruction that is never read, or whose answer would be thrown away, has its error all the same.
func TestErrorsOfWhatIsNeverRead(t *testing.T) {
	for _, c := range []struct {
		list []api.Inst
		e    api.Errno
	}{
		{[]api.Inst{num(1), place(99)}, api.ErrAhead},
		{[]api.Inst{num(1), num(0), of(api.OpDiv, 0, 1)}, api.ErrDivZero},
		{[]api.Inst{num(1), num(most), of(api.OpAdd, 0, 1)}, api.ErrOverflow},
		{[]api.Inst{num(1), num(0), of(api.OpMod, 0, 1), of(api.OpSel, 0, 0, 2)}, api.ErrDivZero},
		// Out of reach on every window: 0 stands in the divisor's span alone.
		{[]api.Inst{place(16), of(api.OpSub, 0, 0), num(1), of(api.OpAdd, 1, 2), of(api.OpDiv, 2, 3)}, api.ErrDivZero},
		{[]api.Inst{place(16), num(1), of(api.OpLt, 0, 1), of(api.OpSel, 2, 1, 0), of(api.OpDiv, 1, 3)}, api.ErrDivZero},
	} {
		for out := range c.list {
			refused(t, api.Code{Kind: image, Insts: c.list, Out: out}, c.e)
		}
	}
}

// 13.1: the cost

func TestCost(t *testing.T) {
	spread := func(count int, n api.Inst, more int) api.Code {
		list := append([]api.Inst{num(7), num(3)}, slices.Repeat([]api.Inst{n}, count)...)
		return coded(append(list, slices.Repeat([]api.Inst{num(1)}, more)...)...)
	}
	div, mod := of(api.OpDiv, 0, 1), of(api.OpMod, 0, 1)
	for _, c := range []struct {
		c    api.Code
		cost int
	}{
		{spread(0, div, 198), 200}, {spread(0, div, 197), 199},
		{spread(49, div, 0), 198}, {spread(49, div, 1), 199}, {spread(49, div, 2), 200}, {spread(48, div, 6), 200}, {spread(1, div, 194), 200}, {spread(1, div, 0), 6},
		{spread(33, mod, 0), 200}, {spread(32, mod, 6), 200}, {spread(32, mod, 5), 199}, {spread(1, mod, 192), 200}, {spread(1, mod, 0), 8},
	} {
		r, e := modelled(t, c.c)
		if e != api.OK || r.Cost != c.cost || r.Depth != 0 || len(r.Spans) != len(c.c.Insts) {
			t.Errorf("Verify(%s) = %v, %d: the cost isn't %d", shown(c.c), r, e, c.cost)
		}
	}
	for _, c := range []api.Code{
		spread(49, div, 3), spread(50, div, 0), spread(48, div, 7), spread(1, div, 195), spread(1, div, 197), spread(198, div, 0), spread(33, mod, 1), spread(34, mod, 0), spread(32, mod, 7), spread(1, mod, 193), spread(1, mod, 197), spread(198, mod, 0),
	} {
		refused(t, c, api.ErrCost)
	}
	for _, c := range []api.Code{spread(0, div, 199), spread(1, div, 198), spread(199, mod, 0), spread(200, div, 0)} {
		refused(t, c, api.ErrCode)
	}
	// What is dear is counted whether it is read or not.
	c := spread(50, div, 0)
	for c.Out = range c.Insts {
		refused(t, c, api.ErrCost)
	}
}

// Every operator but the two costs 1: as many of it as may be.
func TestCostOfEveryOperator(t *testing.T) {
	for _, op := range all {
		n := plain(op, 1)
		each := cost(op)
		fit := 199 / each
		list := append([]api.Inst{num(1)}, slices.Repeat([]api.Inst{n}, fit)...)
		if r, e := modelled(t, coded(list...)); e != api.OK || r.Cost != 1+fit*each {
			t.Errorf("%d times the operator %d: %v, %d", fit, op, r, e)
		}
		want := map[bool]api.Errno{true: api.ErrCode, false: api.ErrCost}[each == 1]
		refused(t, coded(append(list, n)...), want)
	}
}

// A code may be as deep as it is long: its Depth is 0.
func TestDeepCodes(t *testing.T) {
	list := []api.Inst{place(16)}
	spans := "0:255 "
	for i := range 199 {
		list = append(list, of(api.OpNeg, i))
		spans += []string{"-255:0 ", "0:255 "}[i%2]
	}
	taken(t, coded(list...), 200, spans)
	list, spans = []api.Inst{num(1)}, "1 "
	for i := range 30 {
		list = append(list, of(api.OpAdd, i, i))
		spans += fmt.Sprint(2<<i, " ")
	}
	taken(t, coded(list...), 31, spans)
	refused(t, coded(append(list, of(api.OpAdd, 30, 30))...), api.ErrOverflow)
}

// 13.1: whole reports

func TestReportsByHand(t *testing.T) {
	// The mean of two neighbours, and the median-edge predictor.
	taken(t, coded(place(16), place(10), of(api.OpAdd, 0, 1), with(api.OpShrK, 2, 1, 0)), 4, "0:255 0:255 0:510 0:255")
	taken(t, coded(place(16), place(10), place(9), of(api.OpAdd, 0, 1), of(api.OpSub, 3, 2), of(api.OpMed, 0, 1, 4)), 6, "0:255 0:255 0:255 0:510 -255:510 0:255")
	taken(t, codedFor(sound, place(15), place(14), with(api.OpShlK, 0, 1, 0), of(api.OpSub, 2, 1), in(api.InLo), in(api.InHi), of(api.OpClamp, 3, 4, 5)), 7, "-32768:32767 -32768:32767 -65536:65534 -98303:98302 -32768 32767 -32768:32767")
	// Out is one in the midst; nothing of the report hangs on it.
	list := []api.Inst{in(api.InC), num(1), of(api.OpAdd, 0, 1), of(api.OpDiv, 1, 2), of(api.OpMod, 0, 2), of(api.OpEq, 0, 0), of(api.OpSel, 5, 3, 4)}
	for out := range list {
		taken(t, api.Code{Kind: image, Insts: list, Out: out}, 15, "0:3 1 1:4 0:1 0:3 0:1 0:3")
	}
	taken(t, coded(num(-5)), 1, "-5")
	taken(t, codedFor(api.Kind{Form: api.Sound, Depth: 1}, place(30), of(api.OpAbs, 0), of(api.OpXor, 0, 1), of(api.OpNe, 2, 0)), 4, "-1:0 0:1 -2:1 0:1")
	taken(t, coded(in(api.InX), in(api.InY), of(api.OpMul, 0, 1), with(api.OpMulS, 2, 1<<20, 30), with(api.OpAndK, 1, 31, 0), of(api.OpShr, 0, 4)), 6, "0:4095 0:4095 0:16769025 0:16376 0:31 0:4095")
}

// 13.2: programs

const median = "med(p(-1,0),p(0,-1),p(-1,0)+p(0,-1)-p(-1,-1))"

// programs are ordinary ones, of images, of sounds and of both.
var programs = []string{
	"1", "x", "y", "c", "lo", "hi", "mid", "p(-1,0)", "q(1,-1)", "q(3,1,1)", "p(-16)", "p(-1,0)+1", "(p(-1,0)+p(0,-1))/2", median,
	"let a=p(-1,0);let b=p(0,-1);let c0=p(-1,-1);c0>=max(a,b)?min(a,b):c0<=min(a,b)?max(a,b):a+b-c0",
	"1/(abs(p(-1,0)-p(0,-1))+1)", "1/(p(-1,0)-p(0,-1))", "(x&255)*(x&255)", "x*x", "x*y", "2*p(-1)-p(-2)", "clamp(2*p(-1)-p(-2),lo,hi)", "let a=hi;a*a", "x?1:y?2:3",
	"c?q(1,0,0)+p(-1,0)-q(1,-1,0):mid", "let d=abs(p(-1,0)-p(0,-1));d<2?0:d<8?1:d<32?2:3", "-x", "--1", "sgn(-x)<<3>>1", "1<<2<3|4&5^6",
	"let a=1;let b=a;let c2=a+b;(c2%3==0)!=(a>b)", "min(x,max(y,-c))", "let unused=q(3,-4);2147483647", "let e=p(-1)-p(-2);e/3+e%5*(e>>1)-(e<<2)&7|-e^c",
	"p(-1)*p(-2)", "p(-1,0)*p(0,-1)", "p(-1,0)*32768", "p(-1)<<15", "p(-1)<<16", "1/p(-1,0)", "1/p(-1)", "x%((p(-1)&7)+1)", "x>>(p(-1,0)&15)", "1<<(p(-1)&31)", "1<<(p(-1,0)&15)",
	"1/(hi-1)", "1/(lo+2)", "1<<(hi>>12)", "hi*hi", "mid*mid*4", "1/mid", "p(-1)-p(-2)?p(-1)/3:p(-2)%3", "let a=p(-1)<0?-p(-1):p(-1);a==abs(p(-1))", "let a=p(-1,0)+1;a*a", "p(-1,0)/3", "p(-1,0)%10",
	"0" + strings.Repeat("+1%2", 22), strings.Repeat("-", 23) + "1", "1" + strings.Repeat("%7", 28), "1" + strings.Repeat("/7", 39),
}

// lowered asks of a program that the check takes that its code is taken too, with the same cost, and with the spans of its nodes but the uses; it answers whether it is.
func lowered(t *testing.T, k api.Kind, text string) bool {
	t.Helper()
	x, e := parse.Parse(text)
	if e != api.OK {
		t.Fatalf("Parse(%q): %d", text, e)
	}
	want, e := check.Check(k, x)
	c, f := lower.Lower(k, x)
	if e != f {
		t.Fatalf("%q for %v: the check answers %d, Lower %d", text, k, e, f)
	}
	if e != api.OK {
		return false
	}
	r, e := modelled(t, c)
	if e != api.OK || r.Cost != want.Cost || r.Depth != 0 {
		t.Errorf("%q for %v: Verify answers %v, %d, the check the cost %d", text, k, r, e, want.Cost)
		return true
	}
	var spans []api.Span
	for i, n := range x.Nodes {
		if n.Op != api.OpUse {
			spans = append(spans, want.Spans[i])
		}
	}
	if !slices.Equal(r.Spans, spans) {
		t.Errorf("%q for %v: Verify answers %v, the check %v", text, k, r.Spans, spans)
	}
	return true
}

func TestProgramsOfEveryKind(t *testing.T) {
	taken := map[string]int{}
	kinds(func(k api.Kind) {
		for _, text := range programs {
			if lowered(t, k, text) {
				taken[text]++
			}
		}
	})
	for text, count := range map[string]int{"1": 32, "x": 32, "p(-1,0)": 16, "p(-16)": 16, median: 16, "x*x": 16, "x*y": 32, "p(-1)*p(-2)": 16, "p(-1,0)*p(0,-1)": 15, "1/p(-1,0)": 0, "1/(hi-1)": 30, "1/mid": 16, "(p(-1,0)+p(0,-1))/2": 16, "1/(abs(p(-1,0)-p(0,-1))+1)": 16} {
		if taken[text] != count {
			t.Errorf("%q is taken for %d kinds, not for %d", text, taken[text], count)
		}
	}
}

// marks are the operators as a text writes them, of the parts a, b and c.
var marks = []string{
	"-a", "abs(a)", "sgn(a)", "a+b", "a-b", "a*b", "a/b", "a%b", "a/max(b,1)", "a%max(b,3)", "a<<b", "a>>b", "a<<(b&7)", "a>>(b&31)", "a&b", "a|b", "a^b",
	"a<b", "a<=b", "a>b", "a>=b", "a==b", "a!=b", "min(a,b)", "max(a,b)", "clamp(a,b,c)", "med(a,b,c)", "a?b:c",
}

func letter(b byte) bool { return 'a' <= b && b <= 'z' }

// written answers an expression of at most so many levels as a text, in which so many names may be used.
func written(next func(int) int, form, deep, names int) string {
	if deep == 0 || next(6) == 0 {
		switch next(6) {
		case 0:
			return []string{"x", "y", "c", "lo", "hi", "mid"}[next(6)]
		case 1, 2:
			back, x, y := next(4), -1+next(2), -1
			return [][]string{{fmt.Sprintf("p(%d,%d)", x, y), fmt.Sprintf("q(%d,%d,%d)", back, x, y)}, {fmt.Sprintf("p(%d)", x-1), fmt.Sprintf("q(%d,%d)", back, x)}}[form][min(back, 1)]
		case 3:
			if names > 0 {
				return fmt.Sprintf("n%d", next(names))
			}
		}
		return fmt.Sprint([]int{0, 1, 2, 3, 31, 32, 255, 65535, most}[next(9)])
	}
	mark := marks[next(len(marks))]
	var text strings.Builder
	for i, b := range []byte(mark) {
		// A part is a letter that has none beside it.
		lone := (i == 0 || !letter(mark[i-1])) && (i == len(mark)-1 || !letter(mark[i+1]))
		if b >= 'a' && b <= 'c' && lone {
			text.WriteString("(" + written(next, form, deep-1, names) + ")")
		} else {
			text.WriteByte(b)
		}
	}
	return text.String()
}

func TestProgramsAtRandom(t *testing.T) {
	next := draw(11)
	took := 0
	for range 3000 {
		form, deep := next(2), 1+next(4)
		text := ""
		names := next(4)
		for i := range names {
			text += fmt.Sprintf("let n%d=%s;", i, written(next, form, max(deep-2, 0), i))
		}
		text += written(next, form, deep, names)
		if len(text) <= api.MaxText && lowered(t, api.Kind{Form: form, Depth: 1 + next(16)}, text) {
			took++
		}
	}
	if took < 1000 {
		t.Errorf("%d programs are taken", took)
	}
}

// 13.2: codes that no program gives

// sketch answers a code of a kind that may be: of any operators, which read what came ahead; places below a number. Of a hundred instructions that would be refused so many are kept.
func sketch(next func(int) int, k api.Kind, count, places, kept int) api.Code {
	c := api.Code{Kind: k, Out: next(count)}
	for i := range count {
		op := all[next(len(all))]
		if i == 0 || next(4) == 0 {
			op = []int{api.OpNum, api.OpIn, api.OpPlace, api.OpPlace}[next(4)]
		}
		a := operators[op]
		n := api.Inst{Op: op, S: next(a.shift + 1)}
		for _, field := range []*int{&n.A, &n.B, &n.C}[:a.reads] {
			*field = next(i)
		}
		switch op {
		case api.OpPlace:
			n.K = next(places)
		case api.OpNum, api.OpMulK:
			n.K = []int{-3, -1, 0, 1, 2, 5, 31, 255, next(100)}[next(9)]
		case api.OpMulS:
			n.K = []int{1, 171, 1 << 20, 1431655766, 1 << 40}[next(5)]
		case api.OpShlK:
			n.K = next(8)
		default:
			n.K = next(min(a.high, 255) + 1)
		}
		c.Insts = append(c.Insts, n)
		if _, e := model(api.Code{Kind: k, Insts: c.Insts}); e != api.OK && e != api.ErrCost && next(100) >= kept {
			c.Insts[i] = num(1 + next(9))
		}
	}
	return c
}

func TestCodesAtRandom(t *testing.T) {
	next := draw(11)
	got := map[api.Errno]int{}
	for i := range 12000 {
		k := api.Kind{Form: next(2), Depth: 1 + next(16)}
		limit := places(k.Form)
		if next(20) == 0 {
			limit = 60
		}
		count, kept := 1+next(15), 16
		if i%30 == 0 {
			count, kept = 100+next(101), 0
		}
		_, e := modelled(t, sketch(next, k, count, limit, kept))
		got[e]++
	}
	for e, least := range map[api.Errno]int{api.OK: 2000, api.ErrAhead: 20, api.ErrDivZero: 100, api.ErrOverflow: 200, api.ErrCost: 10} {
		if got[e] < least {
			t.Errorf("the answer %d came %d times", e, got[e])
		}
	}
}

// On every window of three places and a plane, of the least depths.
func TestAllWindows(t *testing.T) {
	next := draw(3)
	for _, k := range []api.Kind{{Form: api.Image, Depth: 1}, {Form: api.Sound, Depth: 1}, {Form: api.Image, Depth: 2}, {Form: api.Sound, Depth: 2}} {
		low, size := kind.Low(k), kind.High(k)-kind.Low(k)+1
		took := 0
		for range 150 {
			c := sketch(next, k, 4+next(12), 3, 3)
			r, e := modelled(t, c)
			if e != api.OK {
				continue
			}
			took++
			w := windowOf(k, uint(next(20)))
			for i := range size * size * size * 4 {
				w.P[0], w.P[1], w.P[2], w.C = low+i%size, low+i/size%size, low+i/size/size%size, i/size/size/size
				harmless(t, c, r, w)
			}
		}
		if took < 50 {
			t.Errorf("%d codes of %v are taken", took, k)
		}
	}
}

// Spans hold at their ends: where an operator never falls, or never rises, the windows of the lowest and of the highest samples come to them.
func TestEndsAreReached(t *testing.T) {
	kinds(func(k api.Kind) {
		c := codedFor(k, place(0), place(1), of(api.OpAdd, 0, 1), with(api.OpMulK, 2, 3, 0), with(api.OpMulS, 2, 171, 9), of(api.OpMin, 0, 3), of(api.OpMax, 1, 4), with(api.OpShlK, 0, 4, 0), with(api.OpShrK, 3, 2, 0), of(api.OpMed, 5, 6, 7))
		r, e := modelled(t, c)
		low, f := code.Values(c, windowOf(k, 0))
		high, g := code.Values(c, windowOf(k, 1))
		if e != api.OK || f != api.OK || g != api.OK {
			t.Fatalf("%s: %d, %d, %d", shown(c), e, f, g)
		}
		for i, s := range r.Spans {
			if s.Lo != low[i] || s.Hi != high[i] {
				t.Errorf("%v: the register %d is %v, but comes to %d and %d", k, i, s, low[i], high[i])
			}
		}
	})
}

// What is refused would have gone wrong: on a window, where the spans are as narrow as they can be.
func TestWhatIsRefusedGoesWrong(t *testing.T) {
	for _, c := range []api.Code{
		coded(place(16), num(1), of(api.OpDiv, 1, 0)), coded(place(16), of(api.OpMod, 0, 0)), coded(place(16), num(1), of(api.OpShl, 1, 0)), coded(place(16), with(api.OpShlK, 0, 24, 0)), coded(place(16), with(api.OpMulK, 0, 1<<23+1<<16, 0)),
		coded(place(44)), coded(in(api.InX), with(api.OpMulS, 0, 1<<51, 20)), codedFor(sound, place(0), with(api.OpMulK, 0, -65536, 0)), codedFor(sound, in(api.InX), of(api.OpMul, 0, 0)),
	} {
		_, e := modelled(t, c)
		wrong := false
		for seed := range uint(windows) {
			if _, f := code.Values(c, windowOf(c.Kind, seed)); f == e {
				wrong = true
			}
		}
		if e == api.OK || !wrong {
			t.Errorf("%s: %d, but no window has that error", shown(c), e)
		}
	}
}

func TestOneThingChanged(t *testing.T) {
	next := draw(5)
	got := map[api.Errno]int{}
	for range 120 {
		k := api.Kind{Form: next(2), Depth: 1 + next(16)}
		c := sketch(next, k, 1+next(6), places(k.Form), 16)
		fields := []*int{&c.Out, &c.Kind.Form, &c.Kind.Depth}
		for i := range c.Insts {
			n := &c.Insts[i]
			fields = append(fields, &n.Op, &n.A, &n.B, &n.C, &n.K, &n.S)
		}
		for _, field := range fields {
			old := *field
			for _, to := range append([]int{old - 1, old + 1, -1, 0, 1, 2, 5, 6, 30, 31, 32, 43, 44, 62, 63, 255, 256, len(c.Insts) - 1, len(c.Insts)}, far...) {
				*field = to
				_, e := modelled(t, c)
				got[e]++
			}
			*field = old
		}
	}
	for e, least := range map[api.Errno]int{api.OK: 1000, api.ErrCode: 5000, api.ErrAhead: 20, api.ErrDivZero: 20, api.ErrOverflow: 50} {
		if got[e] < least {
			t.Errorf("the answer %d came %d times", e, got[e])
		}
	}
}

// P1

// Codes of any numbers: whatever they are, there is an answer.
func TestWildCodes(t *testing.T) {
	next := draw(7)
	number := func() int {
		switch next(4) {
		case 0, 1:
			return 0
		case 2:
			return next(8) - 1
		}
		return append([]int{least, most, 1 << 31, 1 << 62, 255, 256}, far...)[next(6+len(far))]
	}
	for range 30000 {
		c := api.Code{Kind: api.Kind{Form: next(3), Depth: next(18)}, Out: number()}
		for range next(6) {
			c.Insts = append(c.Insts, api.Inst{Op: next(40) - 2, A: number(), B: number(), C: number(), K: number(), S: number()})
		}
		modelled(t, c)
	}
	refused(t, api.Code{}, api.ErrCode)
	refused(t, coded(noughts(1<<20)...), api.ErrCode)
}

// examples are codes that are taken.
func examples() []api.Code {
	return []api.Code{
		coded(num(1)), coded(place(16), of(api.OpNeg, 0)), coded(place(16), place(10), of(api.OpAdd, 0, 1), with(api.OpShrK, 2, 1, 0)), coded(place(1), place(2), place(3), of(api.OpMed, 0, 1, 2)),
		codedFor(sound, in(0), with(api.OpMulS, 0, 171, 9), num(7), of(api.OpMod, 1, 2)), coded(noughts(200)...), coded(quotients(49)...),
	}
}

func TestSpansAreNewMemory(t *testing.T) {
	var last []api.Report
	for _, source := range examples() {
		c, stands := roomy(source)
		one, _ := verify.Verify(c)
		two, _ := verify.Verify(c)
		kept := slices.Clone(two.Spans)
		if len(kept) != len(source.Insts) || !same(one, two) {
			t.Errorf("%s: %v, then %v", shown(c), one, two)
		}
		list := one.Spans[:cap(one.Spans)]
		for i := range list {
			list[i] = api.Span{Lo: -99, Hi: -98}
		}
		if !slices.Equal(two.Spans, kept) {
			t.Errorf("%s: two reports share memory", shown(c))
		}
		if !stands() {
			t.Errorf("%s: a report shares memory with the code", shown(c))
		}
		three, e := verify.Verify(c)
		if e != api.OK || !same(three, two) {
			t.Errorf("%s: what was written into a report is seen: %v, %d", shown(c), three, e)
		}
		for i := range c.Insts {
			c.Insts[i] = api.Inst{Op: -1, A: -1, K: -1}
		}
		if !slices.Equal(three.Spans, kept) {
			t.Errorf("%s: what was written into the code is seen", shown(source))
		}
		last = append(last, three)
	}
	// Reports of other codes are left alone too.
	for i, source := range examples() {
		if want, _ := model(source); !same(last[i], want) {
			t.Errorf("%s: the report has become %v", shown(source), last[i])
		}
	}
}

// What a call answers hangs on its code alone: not on calls ahead of it, refused ones among them, nor on the list's room.
func TestOneCodeOneAnswer(t *testing.T) {
	next := draw(23)
	for i := range 200 {
		c := sketch(next, image, 1+next(9), 44+i%2*10, 16)
		want, f := verify.Verify(c)
		for range 3 {
			verify.Verify(coded(place(44)))
			verify.Verify(coded(num(0), of(api.OpDiv, 0, 0)))
			verify.Verify(coded(quotients(50)...))
			verify.Verify(codedFor(sound, place(3), with(api.OpMulK, 0, 3, 0)))
			verify.Verify(api.Code{})
			d := c
			d.Insts = slices.Grow(slices.Clone(c.Insts), 50)
			if r, e := verify.Verify(d); e != f || !same(r, want) {
				t.Errorf("Verify(%s): %v, %d, not %v, %d", shown(c), r, e, want, f)
			}
		}
	}
}

// The tests' own bounds are those of the layers below, and their spans those of layer 5.
func TestTheTestsModel(t *testing.T) {
	kinds(func(k api.Kind) {
		s, border := samples(k)
		if s.Lo != kind.Low(k) || s.Hi != kind.High(k) || border != kind.Border(k) || places(k.Form) != kind.Count(k) {
			t.Errorf("%v: %v, %d, %d places", k, s, border, places(k.Form))
		}
		for n, want := range inputs(k) {
			if got, ok := kind.Input(k, n); !ok || got != want {
				t.Errorf("%v: the input %d is %v", k, n, got)
			}
		}
		for seed := range uint(50) {
			if w := windowOf(k, seed); kind.Fits(k, w) != api.OK {
				t.Errorf("%v: %v doesn't fit", k, w)
			}
		}
	})
	for _, q := range slices.Concat(rowsOfOne, rowsOfTwo, rowsOfThree) {
		s, e := span.Of(q.op, q.k, q.s, spansIn(t, q.args)...)
		if e != q.e || e == api.OK && s != spansIn(t, q.want)[0] {
			t.Errorf("the operator %d (%d, %d) of %s: %v, %d, not %s, %d", q.op, q.k, q.s, q.args, s, e, q.want, q.e)
		}
		if e != api.OK && s != (api.Span{}) {
			t.Errorf("the operator %d of %s: %v beside %d", q.op, q.args, s, e)
		}
	}
}
