package span_test

import (
	"math"
	"math/big"
	"slices"
	"testing"

	"damask/api"
	"damask/arith"
	"damask/span"
)

// The ends of the numbers of 32 bits.
const (
	least = -1 << 31
	most  = 1<<31 - 1
)

// farther are numbers far from all that has 32 bits.
var farther = []int{math.MinInt64, math.MinInt64 + 1, -1 << 62, -1 << 33, -1 << 32, 1 << 32, 1<<32 + 1, 1 << 62, 1<<62 + 1, math.MaxInt64 - 1, math.MaxInt64}

// edges are numbers of 32 bits near which an operator's span turns.
var edges = []int{
	least, least + 1, -1<<30 - 1, -1 << 16, -257, -256, -255, -129, -33, -32, -9, -8, -7, -2, -1,
	0, 1, 2, 7, 8, 9, 30, 31, 32, 127, 128, 255, 256, 46340, 46341, 1 << 16, 1<<30 - 1, 1 << 30, most - 1, most,
}

// shares lists the operators by how many arguments they have.
var shares = [][]int{
	{api.OpNum, api.OpIn, api.OpPlace},
	{api.OpNeg, api.OpAbs, api.OpSgn, api.OpShlK, api.OpShrK, api.OpAndK, api.OpMulK, api.OpMulS},
	{
		api.OpAdd, api.OpSub, api.OpMul, api.OpDiv, api.OpMod, api.OpShl, api.OpShr, api.OpAnd, api.OpOr, api.OpXor,
		api.OpLt, api.OpLe, api.OpGt, api.OpGe, api.OpEq, api.OpNe, api.OpMin, api.OpMax,
	},
	{api.OpClamp, api.OpMed, api.OpSel},
}

// tight lists the operators of whose spans both ends are answers, as promise 5.4 does.
var tight = []int{
	api.OpNeg, api.OpSgn, api.OpAdd, api.OpSub, api.OpMul, api.OpDiv, api.OpShl, api.OpShr,
	api.OpMin, api.OpMax, api.OpClamp, api.OpMed, api.OpShlK, api.OpShrK, api.OpMulK, api.OpMulS,
}

// strangers are numbers that are no operator of register code.
var strangers = append([]int{-33, -8, -1, api.OpNum - 1, api.OpUse, api.OpMulS + 1, api.OpMulS + 2, 64, 99, 256, 257, 1<<31 + api.OpAdd, 1<<32 + api.OpNeg}, farther...)

// request is an operator with its constants.
type request struct{ op, k, s int }

// of answers the span from low to high.
func of(low, high int) api.Span { return api.Span{Lo: low, Hi: high} }

// list answers the spans as a list.
func list(spans ...api.Span) []api.Span { return spans }

// alone answers the span of one number.
func alone(x int) api.Span { return of(x, x) }

// constant answers a k that the operator takes.
func constant(op int) int {
	if slices.Contains(shares[1][3:], op) {
		return 1
	}
	return 0
}

// spansOf answers all spans with the numbers as ends, which rise.
func spansOf(numbers []int) []api.Span {
	var all []api.Span
	for i, low := range numbers {
		for _, high := range numbers[i:] {
			all = append(all, of(low, high))
		}
	}
	return all
}

// spansWithin answers all spans within low to high.
func spansWithin(low, high int) []api.Span {
	var numbers []int
	for x := low; x <= high; x++ {
		numbers = append(numbers, x)
	}
	return spansOf(numbers)
}

// numbersOf answers all numbers of a span.
func numbersOf(s api.Span) []int {
	var all []int
	for x := s.Lo; x <= s.Hi; x++ {
		all = append(all, x)
	}
	return all
}

// asked holds Of against what it should answer.
func asked(t *testing.T, q request, args []api.Span, want api.Span, e api.Errno) {
	t.Helper()
	if s, got := span.Of(q.op, q.k, q.s, args...); s != want || got != e {
		t.Errorf("Of(%d, %d, %d, %v) = %v, %d, not %v, %d", q.op, q.k, q.s, args, s, got, want, e)
	}
}

// refused asks Of for ErrInput.
func refused(t *testing.T, op, k, s int, args ...api.Span) {
	t.Helper()
	asked(t, request{op, k, s}, args, api.Span{}, api.ErrInput)
}

// TestWhole: promise 5.1.
func TestWhole(t *testing.T) {
	for _, s := range append(spansOf(edges), api.Span{}) {
		if !span.Whole(s) {
			t.Errorf("Whole(%v) is false", s)
		}
		if s.Lo < s.Hi && span.Whole(of(s.Hi, s.Lo)) {
			t.Errorf("Whole(%v) is true", of(s.Hi, s.Lo))
		}
	}
	for _, x := range append([]int{least - 2, least - 1, most + 1, most + 2}, farther...) {
		for _, y := range slices.Concat(edges, farther, []int{least - 1, most + 1}) {
			if span.Whole(of(x, y)) || span.Whole(of(y, x)) {
				t.Errorf("a span with the ends %d and %d is Whole", x, y)
			}
		}
	}
}

// TestHas: promise 5.1.
func TestHas(t *testing.T) {
	for _, c := range []struct {
		s    api.Span
		x    int
		want bool
	}{
		{of(1, 3), 0, false}, {of(1, 3), 1, true}, {of(1, 3), 2, true}, {of(1, 3), 3, true}, {of(1, 3), 4, false},
		{of(-3, -1), -4, false}, {of(-3, -1), -3, true}, {of(-3, -1), -1, true}, {of(-3, -1), 0, false},
		{alone(7), 6, false}, {alone(7), 7, true}, {alone(7), 8, false},
		{of(3, 1), 0, false}, {of(3, 1), 1, false}, {of(3, 1), 2, false}, {of(3, 1), 3, false}, {of(3, 1), 4, false},
		{of(math.MinInt64, math.MaxInt64), math.MinInt64, true}, {of(math.MinInt64, math.MaxInt64), 0, true}, {of(math.MinInt64, math.MaxInt64), math.MaxInt64, true},
		{of(math.MaxInt64, math.MinInt64), 0, false}, {of(math.MaxInt64, math.MinInt64), math.MaxInt64, false},
		{of(1<<32, 1<<33), 1 << 32, true}, {of(1<<32, 1<<33), 0, false}, {of(1<<32, 1<<33), 1<<33 + 1, false},
		{alone(math.MinInt64), math.MinInt64, true}, {alone(math.MinInt64), math.MaxInt64, false},
	} {
		if got := span.Has(c.s, c.x); got != c.want {
			t.Errorf("Has(%v, %d) = %v", c.s, c.x, got)
		}
	}
}

// TestJoin: promise 5.1.
func TestJoin(t *testing.T) {
	for _, c := range []struct{ a, b, want api.Span }{
		{of(1, 2), of(9, 9), of(1, 9)}, {of(1, 9), of(3, 4), of(1, 9)}, {of(-5, 3), of(0, 8), of(-5, 8)},
		{alone(4), alone(4), alone(4)}, {api.Span{}, api.Span{}, api.Span{}}, {of(-9, -8), of(-3, -1), of(-9, -1)},
		{of(5, 1), of(7, 3), of(5, 3)}, {of(5, 1), of(2, 3), of(2, 3)}, // the lesser Lo and the greater Hi, whatever they are
		{alone(math.MinInt64), alone(math.MaxInt64), of(math.MinInt64, math.MaxInt64)},
		{of(math.MaxInt64, math.MinInt64), alone(0), alone(0)},
		{of(1<<40, 1<<41), of(-1<<40, 0), of(-1<<40, 1<<41)},
	} {
		if got := span.Join(c.a, c.b); got != c.want {
			t.Errorf("Join(%v, %v) = %v, not %v", c.a, c.b, got, c.want)
		}
		if got := span.Join(c.b, c.a); got != c.want {
			t.Errorf("Join(%v, %v) = %v, not %v", c.b, c.a, got, c.want)
		}
	}
}

// TestOfNoOperator: promise 5.2.
func TestOfNoOperator(t *testing.T) {
	for _, op := range slices.Concat(strangers, shares[0]) {
		for n := range 5 {
			refused(t, op, 1, 1, slices.Repeat(list(alone(1)), n)...)
			refused(t, op, 0, 0, make([]api.Span, n)...)
		}
		refused(t, op, math.MinInt64, math.MaxInt64, of(2, 1), alone(most+1))
	}
}

// TestOfOtherCounts: promise 5.2.
func TestOfOtherCounts(t *testing.T) {
	for n, ops := range shares[1:] {
		for _, op := range ops {
			for count := range 6 {
				args := slices.Repeat(list(alone(1)), count)
				if count != n+1 {
					refused(t, op, constant(op), 0, args...)
				} else if _, e := span.Of(op, constant(op), 0, args...); e != api.OK {
					t.Errorf("Of(%d) with %d arguments: %d", op, count, e)
				}
			}
			refused(t, op, constant(op), 0, make([]api.Span, 1000)...)
			refused(t, op, constant(op), 0)
		}
	}
}

// TestOfConstants: promise 5.2.
func TestOfConstants(t *testing.T) {
	for _, b := range []struct{ op, low, high int }{
		{api.OpShlK, 0, 31}, {api.OpShrK, 0, 31}, {api.OpAndK, 0, most}, {api.OpMulK, least, most}, {api.OpMulS, 1, 1 << 62},
	} {
		for _, k := range []int{b.low - 1, b.high + 1, math.MinInt64, math.MaxInt64} {
			refused(t, b.op, k, 0, alone(0))
		}
		for _, k := range []int{b.low, b.high} {
			asked(t, request{b.op, k, 0}, list(alone(0)), alone(0), api.OK)
		}
	}
	for _, s := range []int{math.MinInt64, -1, 63, 64, math.MaxInt64} {
		refused(t, api.OpMulS, 1, s, alone(0))
		asked(t, request{api.OpMulK, 1, s}, list(alone(5)), alone(5), api.OK) // S isn't named there
		asked(t, request{api.OpAdd, s, s}, list(alone(5), alone(6)), alone(11), api.OK)
	}
	asked(t, request{api.OpMulS, 1, 62}, list(alone(0)), alone(0), api.OK)
}

// TestOfSpansThatAreNotWhole lays a span that isn't Whole at each of an operator's places: promise 5.2.
func TestOfSpansThatAreNotWhole(t *testing.T) {
	wrong := list(of(2, 1), of(0, -1), of(most, least), of(least-1, 0), of(0, most+1), alone(least-1), alone(most+1), of(least-1, most+1), of(math.MinInt64, math.MaxInt64), of(math.MaxInt64, math.MinInt64))
	for n, ops := range shares[1:] {
		for _, op := range ops {
			for i := range n + 1 {
				for _, s := range wrong {
					args := slices.Repeat(list(alone(1)), n+1)
					args[i] = s
					refused(t, op, constant(op), 0, args...)
				}
				for _, s := range list(alone(least), alone(most), of(least, most), of(least, 0), of(0, most)) {
					args := slices.Repeat(list(alone(1)), n+1)
					args[i] = s
					if _, e := span.Of(op, constant(op), 0, args...); e == api.ErrInput {
						t.Errorf("Of(%d, %v) is ErrInput", op, args)
					}
				}
			}
		}
	}
}

// TestErrInputComesFirst has arguments for which other errors would apply too: promise 5.2.
func TestErrInputComesFirst(t *testing.T) {
	refused(t, api.OpDiv, 0, 0, of(0, most+1), alone(0))
	refused(t, api.OpMod, 0, 0, of(1, 0), of(-1, 1))
	refused(t, api.OpDiv, 0, 0, alone(0), of(0, most+1))
	refused(t, api.OpMod, 0, 0, alone(0), of(least-1, 0))
	refused(t, api.OpDiv, 0, 0, alone(1), alone(0), alone(1))
	refused(t, api.OpShl, 0, 0, of(0, most+1), of(0, 32))
	refused(t, api.OpShr, 0, 0, of(1, 0), of(-1, 3))
	refused(t, api.OpShl, 0, 0, alone(1), of(32, 31))
	refused(t, api.OpShlK, 32, 0, of(least, most))
	refused(t, api.OpMulS, 1<<62, 63, alone(2))
	refused(t, api.OpMulS, 1<<62, 62, alone(most+1))
	refused(t, api.OpMulS, 1<<62, 62, of(2, 1))
	refused(t, api.OpNeg, 0, 0, of(least-1, least))
	refused(t, api.OpSel, 0, 0, alone(1), alone(2), alone(most+1)) // the part that isn't chosen counts too
	refused(t, api.OpSel, 0, 0, alone(0), of(2, 1), alone(2))
}

// example is a call of Of with its answer written out.
type example struct {
	request
	args []api.Span
	want api.Span
	e    api.Errno
}

// TestOfExamples has the chapter's examples: promise 5.3.
func TestOfExamples(t *testing.T) {
	pixel, sound := of(0, 255), of(-128, 127)
	for _, c := range []example{
		{request{api.OpSub, 0, 0}, list(pixel, pixel), of(-255, 255), api.OK},
		{request{api.OpMul, 0, 0}, list(sound, pixel), of(-32640, 32385), api.OK},
		{request{api.OpDiv, 0, 0}, list(sound, of(2, 3)), of(-64, 63), api.OK},
		{request{api.OpDiv, 0, 0}, list(pixel, sound), api.Span{}, api.ErrDivZero},
		{request{api.OpMod, 0, 0}, list(sound, alone(10)), of(-9, 9), api.OK},
		{request{api.OpMod, 0, 0}, list(of(2, 5), alone(100)), of(0, 5), api.OK},
		{request{api.OpShl, 0, 0}, list(sound, of(1, 4)), of(-2048, 2032), api.OK},
		{request{api.OpShl, 0, 0}, list(pixel, of(0, 24)), api.Span{}, api.ErrOverflow},
		{request{api.OpAnd, 0, 0}, list(sound, pixel), pixel, api.OK},
		{request{api.OpOr, 0, 0}, list(of(4, 9), of(1, 2)), of(4, 15), api.OK},
		{request{api.OpLt, 0, 0}, list(of(3, 4), of(1, 3)), alone(0), api.OK},
		{request{api.OpSel, 0, 0}, list(of(1, 3), of(-7, 2), of(5, 6)), of(-7, 2), api.OK},
	} {
		asked(t, c.request, c.args, c.want, c.e)
	}
}

// TestOfDivisors: promises 5.2 and 5.3.
func TestOfDivisors(t *testing.T) {
	for _, op := range []int{api.OpDiv, api.OpMod} {
		for _, b := range list(alone(0), of(-1, 0), of(0, 1), of(-1, 1), of(least, 0), of(0, most), of(least, most)) {
			for _, a := range list(alone(0), alone(5), of(least, most), of(-3, -1)) {
				asked(t, request{op, 0, 0}, list(a, b), api.Span{}, api.ErrDivZero)
			}
		}
	}
	div, mod := request{api.OpDiv, 0, 0}, request{api.OpMod, 0, 0}
	for _, c := range []example{
		{div, list(of(-7, 9), of(1, 2)), of(-7, 9), api.OK},
		{div, list(of(-7, 9), of(-2, -1)), of(-9, 7), api.OK},
		{div, list(of(7, 9), of(2, 4)), of(1, 4), api.OK},
		{div, list(of(-9, -7), of(2, 4)), of(-4, -1), api.OK},
		{div, list(of(7, 9), of(-4, -2)), of(-4, -1), api.OK},
		{div, list(alone(-7), alone(2)), alone(-3), api.OK},
		{div, list(of(least, 0), alone(1)), of(least, 0), api.OK},
		{div, list(of(least, 0), alone(-1)), api.Span{}, api.ErrOverflow},
		{div, list(alone(least), of(-5, -1)), api.Span{}, api.ErrOverflow},
		{div, list(alone(least), of(-5, -2)), of(429496729, 1<<30), api.OK},
		{div, list(of(least+1, most), alone(-1)), of(-most, most), api.OK},
		{mod, list(of(-128, 127), of(-10, -3)), of(-9, 9), api.OK},
		{mod, list(of(-128, 127), of(-3, -1)), of(-2, 2), api.OK},
		{mod, list(of(-128, 127), of(1, 3)), of(-2, 2), api.OK},
		{mod, list(of(-2, 1), of(1, 100)), of(-2, 1), api.OK},
		{mod, list(of(-5, -2), alone(100)), of(-5, 0), api.OK},
		{mod, list(of(-5, -2), alone(4)), of(-3, 0), api.OK},
		{mod, list(of(-5, 0), alone(4)), of(-3, 0), api.OK},
		{mod, list(of(0, 5), alone(4)), of(0, 3), api.OK},
		{mod, list(alone(0), alone(4)), alone(0), api.OK},
		{mod, list(of(-5, 5), alone(1)), alone(0), api.OK},
		{mod, list(of(-5, 5), alone(-1)), alone(0), api.OK},
		{mod, list(alone(least), alone(-1)), alone(0), api.OK},
		{mod, list(of(least, most), alone(least)), of(-most, most), api.OK},
		{mod, list(of(least, most), alone(most)), of(1-most, most-1), api.OK},
	} {
		asked(t, c.request, c.args, c.want, c.e)
	}
}

// TestOfShifts: promises 5.2 and 5.3.
func TestOfShifts(t *testing.T) {
	for _, op := range []int{api.OpShl, api.OpShr} {
		for _, b := range list(of(-1, 3), of(-1, 0), alone(-1), of(0, 32), of(31, 32), alone(32), of(-1, 32), of(least, most), alone(least), alone(most)) {
			for _, a := range list(alone(0), alone(1), of(-3, 4)) {
				asked(t, request{op, 0, 0}, list(a, b), api.Span{}, api.ErrOverflow)
			}
		}
	}
	left, right := request{api.OpShl, 0, 0}, request{api.OpShr, 0, 0}
	for _, c := range []example{
		{left, list(alone(0), of(0, 31)), alone(0), api.OK},
		{left, list(of(-1, 0), of(0, 31)), of(least, 0), api.OK},
		{left, list(of(-1, 1), of(0, 31)), api.Span{}, api.ErrOverflow},
		{left, list(of(-1, 1), of(0, 30)), of(-1<<30, 1<<30), api.OK},
		{left, list(of(-2, -1), of(1, 30)), of(least, -2), api.OK},
		{left, list(of(3, 5), of(1, 2)), of(6, 20), api.OK},
		{left, list(of(least, most), alone(0)), of(least, most), api.OK},
		{left, list(alone(least), of(0, 1)), api.Span{}, api.ErrOverflow},
		{right, list(of(least, most), of(0, 31)), of(least, most), api.OK},
		{right, list(of(least, most), alone(31)), of(-1, 0), api.OK},
		{right, list(of(-9, -5), of(1, 31)), of(-5, -1), api.OK},
		{right, list(of(5, 9), of(1, 31)), of(0, 4), api.OK},
		{right, list(of(-9, 9), of(1, 2)), of(-5, 4), api.OK},
		{request{api.OpShlK, 4, 0}, list(of(-128, 127)), of(-2048, 2032), api.OK},
		{request{api.OpShlK, 31, 0}, list(of(-1, 0)), of(least, 0), api.OK},
		{request{api.OpShlK, 31, 0}, list(of(-1, 1)), api.Span{}, api.ErrOverflow},
		{request{api.OpShlK, 31, 0}, list(of(-2, 0)), api.Span{}, api.ErrOverflow},
		{request{api.OpShrK, 31, 0}, list(of(least, most)), of(-1, 0), api.OK},
		{request{api.OpShrK, 1, 0}, list(of(-3, 3)), of(-2, 1), api.OK},
		{request{api.OpShrK, 0, 0}, list(of(-3, 3)), of(-3, 3), api.OK},
	} {
		asked(t, c.request, c.args, c.want, c.e)
	}
}

// TestOfProducts: promises 5.2 and 5.3.
func TestOfProducts(t *testing.T) {
	mul := request{api.OpMul, 0, 0}
	for _, c := range []example{
		{mul, list(of(-3, 2), of(-5, 7)), of(-21, 15), api.OK},
		{mul, list(of(-3, -2), of(-7, -5)), of(10, 21), api.OK},
		{mul, list(of(2, 3), of(-7, -5)), of(-21, -10), api.OK},
		{mul, list(of(least, most), alone(0)), alone(0), api.OK},
		{mul, list(of(least, most), alone(1)), of(least, most), api.OK},
		{mul, list(of(least, most), alone(-1)), api.Span{}, api.ErrOverflow},
		{mul, list(alone(least), alone(least)), api.Span{}, api.ErrOverflow},
		{mul, list(of(0, 46340), of(0, 46340)), of(0, 46340*46340), api.OK},
		{mul, list(of(0, 46341), of(0, 46341)), api.Span{}, api.ErrOverflow},
		{mul, list(of(-1<<16, 0), of(0, 1<<15)), of(least, 0), api.OK},
		{mul, list(of(0, 1<<16), of(0, 1<<15)), api.Span{}, api.ErrOverflow},
		{request{api.OpMulK, -3, 0}, list(of(-5, 7)), of(-21, 15), api.OK},
		{request{api.OpMulK, 3, 0}, list(of(-5, 7)), of(-15, 21), api.OK},
		{request{api.OpMulK, 0, 0}, list(of(least, most)), alone(0), api.OK},
		{request{api.OpMulK, least, 0}, list(of(0, 1)), of(least, 0), api.OK},
		{request{api.OpMulK, least, 0}, list(of(-1, 1)), api.Span{}, api.ErrOverflow},
		{request{api.OpMulK, most, 0}, list(of(-1, 1)), of(-most, most), api.OK},
		{request{api.OpMulS, 171, 9}, list(of(0, 255)), of(0, 85), api.OK},
		{request{api.OpMulS, 1431655766, 32}, list(of(-128, 127)), of(-43, 42), api.OK},
		{request{api.OpMulS, 1 << 62, 62}, list(of(-1, 1)), of(-1, 1), api.OK}, // just 2^62
		{request{api.OpMulS, 1 << 62, 62}, list(of(-1, 2)), api.Span{}, api.ErrOverflow},
		{request{api.OpMulS, 1 << 62, 62}, list(of(-2, 1)), api.Span{}, api.ErrOverflow},
		{request{api.OpMulS, 1 << 62, 62}, list(of(0, 4)), api.Span{}, api.ErrOverflow}, // 2^64, which would wrap to 0
		{request{api.OpMulS, 1 << 61, 62}, list(of(-2, 2)), of(-1, 1), api.OK},
		{request{api.OpMulS, 1 << 61, 62}, list(of(-2, 3)), api.Span{}, api.ErrOverflow},
		{request{api.OpMulS, 1 << 61, 62}, list(of(-3, 2)), api.Span{}, api.ErrOverflow},
		{request{api.OpMulS, 1<<62 - 1, 62}, list(of(-1, 1)), of(-1, 0), api.OK},
		{request{api.OpMulS, 1 << 31, 31}, list(of(least, most)), of(least, most), api.OK}, // -2^62 at the low end
		{request{api.OpMulS, 1<<31 + 1, 62}, list(of(least, 0)), api.Span{}, api.ErrOverflow},
		{request{api.OpMulS, 1<<31 + 1, 62}, list(of(0, most)), of(0, 0), api.OK}, // 2^62 - 1
		{request{api.OpMulS, 1<<31 + 2, 62}, list(of(0, most)), api.Span{}, api.ErrOverflow},
		{request{api.OpMulS, 2, 0}, list(of(0, 1<<30-1)), of(0, most-1), api.OK},
		{request{api.OpMulS, 2, 0}, list(of(0, 1<<30)), api.Span{}, api.ErrOverflow}, // the product is small, the answer hasn't 32 bits
		{request{api.OpMulS, 2, 0}, list(of(-1<<30, 0)), of(least, 0), api.OK},
	} {
		asked(t, c.request, c.args, c.want, c.e)
	}
}

// TestOfBits: promise 5.3.
func TestOfBits(t *testing.T) {
	and, or, xor := request{api.OpAnd, 0, 0}, request{api.OpOr, 0, 0}, request{api.OpXor, 0, 0}
	for _, c := range []example{
		{and, list(of(3, 7), of(2, 5)), of(0, 5), api.OK},
		{and, list(of(2, 5), of(3, 7)), of(0, 5), api.OK},
		{and, list(of(0, 5), of(-1, 9)), of(0, 5), api.OK},
		{and, list(of(0, 9), of(-9, -1)), of(0, 9), api.OK},
		{and, list(of(-1, 9), of(0, 5)), of(0, 5), api.OK},
		{and, list(of(-9, -1), of(5, 5)), of(0, 5), api.OK},
		{and, list(of(-1, 7), of(-1, 7)), of(-8, 7), api.OK},
		{and, list(of(-1, 8), of(-1, 7)), of(-16, 15), api.OK},
		{and, list(of(-8, 0), of(-1, 7)), of(-8, 7), api.OK},
		{and, list(of(-9, 0), of(-1, 7)), of(-16, 15), api.OK},
		{and, list(of(-1, 7), of(-9, 0)), of(-16, 15), api.OK},
		{and, list(alone(-1), alone(-1)), of(-1, 0), api.OK},
		{and, list(of(-1, 0), of(-1, 0)), of(-1, 0), api.OK},
		{and, list(of(-2, 0), of(-1, 0)), of(-2, 1), api.OK},
		{and, list(of(-1, 1), of(-1, 0)), of(-2, 1), api.OK},
		{and, list(alone(least), alone(least)), of(least, most), api.OK},
		{or, list(of(0, 7), of(0, 7)), of(0, 7), api.OK},
		{or, list(of(0, 8), of(0, 7)), of(0, 15), api.OK},
		{or, list(of(1, 2), of(4, 9)), of(4, 15), api.OK},
		{or, list(alone(8), alone(3)), of(8, 15), api.OK},
		{or, list(alone(0), alone(0)), alone(0), api.OK},
		{or, list(alone(0), alone(1)), of(1, 1), api.OK},
		{or, list(of(0, most), of(5, 5)), of(5, most), api.OK},
		{or, list(of(0, 1<<30-1), alone(0)), of(0, 1<<30-1), api.OK},
		{or, list(of(0, 1<<30), alone(0)), of(0, most), api.OK},
		{or, list(of(-1, 0), of(4, 9)), of(-16, 15), api.OK},
		{or, list(of(4, 9), of(-1, 0)), of(-16, 15), api.OK},
		{or, list(of(-16, -3), of(4, 9)), of(-16, 15), api.OK},
		{or, list(of(-17, -3), of(4, 9)), of(-32, 31), api.OK},
		{or, list(of(least, 0), alone(0)), of(least, most), api.OK},
		{xor, list(of(4, 9), of(1, 2)), of(0, 15), api.OK},
		{xor, list(of(4, 7), of(4, 7)), of(0, 7), api.OK},
		{xor, list(of(4, 8), of(4, 7)), of(0, 15), api.OK},
		{xor, list(alone(0), alone(0)), alone(0), api.OK},
		{xor, list(of(4, 9), of(-1, 2)), of(-16, 15), api.OK},
		{xor, list(of(-1, 2), of(4, 9)), of(-16, 15), api.OK},
		{xor, list(alone(-1), alone(-1)), of(-1, 0), api.OK},
		{request{api.OpAndK, 7, 0}, list(of(-128, 127)), of(0, 7), api.OK},
		{request{api.OpAndK, 7, 0}, list(of(0, 3)), of(0, 3), api.OK},
		{request{api.OpAndK, 7, 0}, list(of(2, 30)), of(0, 7), api.OK},
		{request{api.OpAndK, 0, 0}, list(of(least, most)), alone(0), api.OK},
		{request{api.OpAndK, most, 0}, list(alone(least)), of(0, most), api.OK},
	} {
		asked(t, c.request, c.args, c.want, c.e)
	}
}

// TestOfComparisons asks of two spans for all six comparisons, in the order OpLt, OpLe, OpGt, OpGe, OpEq, OpNe: promise 5.3.
func TestOfComparisons(t *testing.T) {
	no, yes, may := alone(0), alone(1), of(0, 1)
	for _, c := range []struct {
		a, b api.Span
		want [6]api.Span
	}{
		{of(1, 2), of(3, 4), [6]api.Span{yes, yes, no, no, no, yes}},
		{of(3, 4), of(1, 2), [6]api.Span{no, no, yes, yes, no, yes}},
		{of(1, 3), of(3, 4), [6]api.Span{may, yes, no, may, may, may}}, // they touch
		{of(3, 4), of(1, 3), [6]api.Span{no, may, may, yes, may, may}},
		{of(1, 4), of(2, 3), [6]api.Span{may, may, may, may, may, may}}, // no end is one of the other's
		{of(2, 3), of(1, 4), [6]api.Span{may, may, may, may, may, may}},
		{of(1, 2), of(1, 2), [6]api.Span{may, may, may, may, may, may}},
		{of(1, 3), of(2, 4), [6]api.Span{may, may, may, may, may, may}},
		{alone(5), alone(5), [6]api.Span{no, yes, no, yes, yes, no}},
		{alone(0), alone(0), [6]api.Span{no, yes, no, yes, yes, no}},
		{alone(-5), alone(5), [6]api.Span{yes, yes, no, no, no, yes}},
		{alone(2), of(2, 3), [6]api.Span{may, yes, no, may, may, may}},
		{of(2, 3), alone(3), [6]api.Span{may, yes, no, may, may, may}},
		{of(2, 3), alone(2), [6]api.Span{no, may, may, yes, may, may}},
		{alone(least), of(least, most), [6]api.Span{may, yes, no, may, may, may}},
		{of(least, -1), of(0, most), [6]api.Span{yes, yes, no, no, no, yes}},
	} {
		for i, want := range c.want {
			asked(t, request{api.OpLt + i, 0, 0}, list(c.a, c.b), want, api.OK)
		}
	}
}

// TestOfOthers has the edges of the other operators: promise 5.3.
func TestOfOthers(t *testing.T) {
	for _, c := range []example{
		{request{api.OpNeg, 0, 0}, list(of(-3, 5)), of(-5, 3), api.OK},
		{request{api.OpNeg, 0, 0}, list(of(least+1, most)), of(-most, most), api.OK},
		{request{api.OpNeg, 0, 0}, list(of(least, most)), api.Span{}, api.ErrOverflow},
		{request{api.OpNeg, 0, 0}, list(alone(least)), api.Span{}, api.ErrOverflow},
		{request{api.OpAbs, 0, 0}, list(of(3, 5)), of(3, 5), api.OK},
		{request{api.OpAbs, 0, 0}, list(of(0, 5)), of(0, 5), api.OK},
		{request{api.OpAbs, 0, 0}, list(of(-5, -3)), of(3, 5), api.OK},
		{request{api.OpAbs, 0, 0}, list(of(-5, 0)), of(0, 5), api.OK},
		{request{api.OpAbs, 0, 0}, list(of(-5, -1)), of(1, 5), api.OK},
		{request{api.OpAbs, 0, 0}, list(of(-5, 3)), of(0, 5), api.OK},
		{request{api.OpAbs, 0, 0}, list(of(-3, 5)), of(0, 5), api.OK},
		{request{api.OpAbs, 0, 0}, list(of(least+1, most)), of(0, most), api.OK},
		{request{api.OpAbs, 0, 0}, list(of(least, -5)), api.Span{}, api.ErrOverflow},
		{request{api.OpAbs, 0, 0}, list(of(least, most)), api.Span{}, api.ErrOverflow},
		{request{api.OpSgn, 0, 0}, list(of(-3, 5)), of(-1, 1), api.OK},
		{request{api.OpSgn, 0, 0}, list(of(0, 5)), of(0, 1), api.OK},
		{request{api.OpSgn, 0, 0}, list(of(1, 5)), alone(1), api.OK},
		{request{api.OpSgn, 0, 0}, list(of(least, -1)), alone(-1), api.OK},
		{request{api.OpSgn, 0, 0}, list(alone(0)), alone(0), api.OK},
		{request{api.OpAdd, 0, 0}, list(of(-3, 5), of(-7, 2)), of(-10, 7), api.OK},
		{request{api.OpAdd, 0, 0}, list(of(0, most-1), of(0, 1)), of(0, most), api.OK},
		{request{api.OpAdd, 0, 0}, list(of(0, most), of(0, 1)), api.Span{}, api.ErrOverflow},
		{request{api.OpAdd, 0, 0}, list(of(least+1, 0), of(-1, 0)), of(least, 0), api.OK},
		{request{api.OpAdd, 0, 0}, list(of(least, 0), of(-1, 0)), api.Span{}, api.ErrOverflow},
		{request{api.OpSub, 0, 0}, list(of(-3, 5), of(-7, 2)), of(-5, 12), api.OK},
		{request{api.OpSub, 0, 0}, list(alone(-1), of(least, most)), of(least, most), api.OK},
		{request{api.OpSub, 0, 0}, list(alone(0), of(least, most)), api.Span{}, api.ErrOverflow},
		{request{api.OpSub, 0, 0}, list(of(least, 0), of(-1, 1)), api.Span{}, api.ErrOverflow},
		{request{api.OpMin, 0, 0}, list(of(-3, 5), of(-7, 2)), of(-7, 2), api.OK},
		{request{api.OpMin, 0, 0}, list(of(1, 9), of(3, 5)), of(1, 5), api.OK},
		{request{api.OpMax, 0, 0}, list(of(-3, 5), of(-7, 2)), of(-3, 5), api.OK},
		{request{api.OpMax, 0, 0}, list(of(1, 9), of(3, 5)), of(3, 9), api.OK},
		{request{api.OpClamp, 0, 0}, list(of(-128, 127), alone(0), of(0, 255)), of(0, 127), api.OK},
		{request{api.OpClamp, 0, 0}, list(of(-9, 9), of(3, 4), of(-2, 1)), of(-2, 1), api.OK}, // the upper bound holds last
		{request{api.OpMed, 0, 0}, list(of(0, 3), of(5, 9), of(-4, 20)), of(0, 9), api.OK},
		{request{api.OpMed, 0, 0}, list(of(5, 9), of(-4, 20), of(0, 3)), of(0, 9), api.OK},
		{request{api.OpSel, 0, 0}, list(of(-3, -1), of(1, 2), of(8, 9)), of(1, 2), api.OK},
		{request{api.OpSel, 0, 0}, list(alone(0), of(1, 2), of(8, 9)), of(8, 9), api.OK},
		{request{api.OpSel, 0, 0}, list(of(0, 1), of(1, 2), of(8, 9)), of(1, 9), api.OK},
		{request{api.OpSel, 0, 0}, list(of(-1, 0), of(8, 9), of(1, 2)), of(1, 9), api.OK},
		{request{api.OpSel, 0, 0}, list(of(-1, 1), of(least, 2), of(8, most)), of(least, most), api.OK},
	} {
		asked(t, c.request, c.args, c.want, c.e)
	}
}

// exact answers what arith's chapter says of the operators that the table asks for a value, on numbers without bounds. What is handed to it may be.
func exact(q request, args ...int) *big.Int {
	x, a := new(big.Int), big.NewInt(int64(args[0]))
	switch q.op {
	case api.OpSgn:
		return x.SetInt64(int64(a.Sign()))
	case api.OpShlK:
		return x.Lsh(a, uint(q.k))
	case api.OpShrK:
		return x.Rsh(a, uint(q.k))
	case api.OpMulS:
		return x.Rsh(x.Mul(a, big.NewInt(int64(q.k))), uint(q.s))
	case api.OpMul:
		return x.Mul(a, big.NewInt(int64(args[1])))
	case api.OpDiv:
		return x.Quo(a, big.NewInt(int64(args[1])))
	case api.OpShl:
		return x.Lsh(a, uint(args[1]))
	case api.OpShr:
		return x.Rsh(a, uint(args[1]))
	case api.OpMin:
		return x.SetInt64(int64(slices.Min(args)))
	case api.OpMax:
		return x.SetInt64(int64(slices.Max(args)))
	case api.OpClamp:
		return x.SetInt64(int64(slices.Min([]int{args[2], slices.Max(args[:2])})))
	}
	return x.SetInt64(int64(slices.Sorted(slices.Values(args))[1]))
}

// below answers whether the span has a number below 0.
func below(s api.Span) bool { return s.Lo < 0 }

// power answers 2^n, n being the least number for which all ends are from -2^n to 2^n - 1.
func power(spans ...api.Span) int {
	size := 1
	for _, s := range spans {
		for s.Lo < -size || s.Hi > size-1 || s.Hi < -size || s.Lo > size-1 {
			size *= 2
		}
	}
	return size
}

// tabled answers the table's span of the operators with one argument; its ends may have more than 64 bits.
func tabled(q request, a api.Span) (lo, hi *big.Int) {
	pair := func(lo, hi int) (*big.Int, *big.Int) { return big.NewInt(int64(lo)), big.NewInt(int64(hi)) }
	switch q.op {
	case api.OpNeg:
		return pair(-a.Hi, -a.Lo)
	case api.OpAbs:
		if !below(a) {
			return pair(a.Lo, a.Hi)
		}
		if a.Hi >= 0 {
			return pair(0, max(-a.Lo, a.Hi))
		}
		return pair(-a.Hi, max(-a.Lo, a.Hi))
	case api.OpMulK:
		return tabledOfTwo(request{api.OpMul, 0, 0}, a, alone(q.k))
	case api.OpAndK:
		return tabledOfTwo(request{api.OpAnd, 0, 0}, a, alone(q.k))
	}
	return exact(q, a.Lo), exact(q, a.Hi)
}

// tabledOfTwo is tabled of the operators with two arguments.
func tabledOfTwo(q request, a, b api.Span) (lo, hi *big.Int) {
	pair := func(lo, hi int) (*big.Int, *big.Int) { return big.NewInt(int64(lo)), big.NewInt(int64(hi)) }
	size := power(a, b)
	switch q.op {
	case api.OpAdd:
		return pair(a.Lo+b.Lo, a.Hi+b.Hi)
	case api.OpSub:
		return pair(a.Lo-b.Hi, a.Hi-b.Lo)
	case api.OpMul, api.OpDiv, api.OpShl, api.OpShr:
		all := []*big.Int{exact(q, a.Lo, b.Lo), exact(q, a.Lo, b.Hi), exact(q, a.Hi, b.Lo), exact(q, a.Hi, b.Hi)}
		return slices.MinFunc(all, (*big.Int).Cmp), slices.MaxFunc(all, (*big.Int).Cmp)
	case api.OpMod:
		m := max(b.Lo, -b.Lo, b.Hi, -b.Hi) - 1
		low, high := 0, 0
		if below(a) {
			low = max(a.Lo, -m)
		}
		if a.Hi > 0 {
			high = min(a.Hi, m)
		}
		return pair(low, high)
	case api.OpAnd:
		switch {
		case !below(a) && !below(b):
			return pair(0, min(a.Hi, b.Hi))
		case !below(a):
			return pair(0, a.Hi)
		case !below(b):
			return pair(0, b.Hi)
		}
		return pair(-size, size-1)
	case api.OpOr, api.OpXor:
		switch {
		case below(a) || below(b):
			return pair(-size, size-1)
		case q.op == api.OpOr:
			return pair(max(a.Lo, b.Lo), size-1)
		}
		return pair(0, size-1)
	case api.OpMin, api.OpMax:
		return exact(q, a.Lo, b.Lo), exact(q, a.Hi, b.Hi)
	}
	every, none := ordered(q.op, a, b)
	switch {
	case every:
		return pair(1, 1)
	case none:
		return pair(0, 0)
	}
	return pair(0, 1)
}

// ordered answers whether a comparison is so of every pair, and of none.
func ordered(op int, a, b api.Span) (every, none bool) {
	apart := a.Hi < b.Lo || b.Hi < a.Lo
	single := a.Lo == a.Hi && a.Hi == b.Lo && b.Lo == b.Hi
	switch op {
	case api.OpLt:
		return a.Hi < b.Lo, a.Lo >= b.Hi
	case api.OpLe:
		return a.Hi <= b.Lo, a.Lo > b.Hi
	case api.OpGt:
		return a.Lo > b.Hi, a.Hi <= b.Lo
	case api.OpGe:
		return a.Lo >= b.Hi, a.Hi < b.Lo
	case api.OpEq:
		return single, apart
	}
	return apart, single
}

// tabledOfThree is tabled of the operators with three arguments.
func tabledOfThree(q request, a, b, c api.Span) (lo, hi *big.Int) {
	if q.op != api.OpSel {
		return exact(q, a.Lo, b.Lo, c.Lo), exact(q, a.Hi, b.Hi, c.Hi)
	}
	r := of(min(b.Lo, c.Lo), max(b.Hi, c.Hi))
	switch {
	case a.Lo > 0 || a.Hi < 0:
		r = b
	case a.Lo == 0 && a.Hi == 0:
		r = c
	}
	return big.NewInt(int64(r.Lo)), big.NewInt(int64(r.Hi))
}

// meaning answers what the chapter says of an operator and spans that may be.
func meaning(q request, args []api.Span) (api.Span, api.Errno) {
	switch q.op {
	case api.OpDiv, api.OpMod:
		if args[1].Lo <= 0 && args[1].Hi >= 0 {
			return api.Span{}, api.ErrDivZero
		}
	case api.OpShl, api.OpShr:
		if args[1].Lo < 0 || args[1].Hi > 31 {
			return api.Span{}, api.ErrOverflow
		}
	case api.OpMulS:
		for _, x := range []int{args[0].Lo, args[0].Hi} {
			product := new(big.Int).Mul(big.NewInt(int64(x)), big.NewInt(int64(q.k)))
			if product.CmpAbs(big.NewInt(1<<62)) > 0 {
				return api.Span{}, api.ErrOverflow
			}
		}
	}
	var lo, hi *big.Int
	switch len(args) {
	case 1:
		lo, hi = tabled(q, args[0])
	case 2:
		lo, hi = tabledOfTwo(q, args[0], args[1])
	default:
		lo, hi = tabledOfThree(q, args[0], args[1], args[2])
	}
	if lo.Cmp(big.NewInt(least)) < 0 || hi.Cmp(big.NewInt(most)) > 0 {
		return api.Span{}, api.ErrOverflow
	}
	return of(int(lo.Int64()), int(hi.Int64())), api.OK
}

// held holds Of against the table.
func held(t *testing.T, q request, args ...api.Span) {
	t.Helper()
	want, e := meaning(q, args)
	asked(t, q, args, want, e)
}

// withConstants answers the operators with one argument, each with constants near which its span turns.
func withConstants() []request {
	all := []request{{api.OpNeg, 0, 0}, {api.OpAbs, 0, 0}, {api.OpSgn, 0, 0}}
	for k := range 32 {
		all = append(all, request{api.OpShlK, k, 0}, request{api.OpShrK, k, 0})
	}
	for _, k := range edges {
		all = append(all, request{api.OpMulK, k, 0})
		if k >= 0 {
			all = append(all, request{api.OpAndK, k, 0})
		}
	}
	for _, k := range []int{1, 2, 3, 171, 1 << 30, 1<<31 - 1, 1 << 31, 1<<31 + 1, 1<<31 + 2, 1431655766, 1 << 32, 1<<61 - 1, 1 << 61, 1<<61 + 1, 1<<62 - 1, 1 << 62} {
		for _, s := range []int{0, 1, 9, 30, 31, 32, 33, 61, 62} {
			all = append(all, request{api.OpMulS, k, s})
		}
	}
	return all
}

// TestTable holds every operator against the chapter's table, at spans between edges: promises 5.2 and 5.3.
func TestTable(t *testing.T) {
	for _, a := range spansOf(edges) {
		for _, q := range withConstants() {
			held(t, q, a)
		}
	}
	few := spansOf([]int{least, least + 1, -1 << 16, -9, -8, -1, 0, 1, 7, 8, 31, 32, 46340, 46341, 1 << 30, most})
	for _, a := range few {
		for _, b := range few {
			for _, op := range shares[2] {
				held(t, request{op, 0, 0}, a, b)
			}
		}
	}
	fewer := spansOf([]int{least, -5, -1, 0, 1, 6, most})
	for _, a := range fewer {
		for _, b := range fewer {
			for _, c := range fewer {
				for _, op := range shares[3] {
					held(t, request{op, 0, 0}, a, b, c)
				}
			}
		}
	}
}

// TestTableOfSmallSpans leaves out no span near 0.
func TestTableOfSmallSpans(t *testing.T) {
	small := spansWithin(-6, 6)
	for _, a := range small {
		for _, b := range small {
			for _, op := range shares[2] {
				held(t, request{op, 0, 0}, a, b)
			}
		}
	}
}

// answers answers all that arith.Value makes of the numbers of the spans; it fails where there is an error.
func answers(t *testing.T, q request, args []api.Span) []int {
	t.Helper()
	rows := [][]int{{}}
	for _, a := range args {
		var next [][]int
		for _, row := range rows {
			for _, x := range numbersOf(a) {
				next = append(next, append(slices.Clone(row), x))
			}
		}
		rows = next
	}
	var all []int
	for _, row := range rows {
		x, e := arith.Value(q.op, q.k, q.s, row...)
		if e != api.OK {
			t.Errorf("Of(%d, %d, %d, %v) is answered, but Value of %v is %d", q.op, q.k, q.s, args, row, e)
		}
		all = append(all, x)
	}
	return all
}

// sound holds what Of answers against all answers of arith.Value: promise 5.4.
func sound(t *testing.T, q request, args ...api.Span) {
	t.Helper()
	s, e := span.Of(q.op, q.k, q.s, args...)
	if e != api.OK {
		return
	}
	all := answers(t, q, args)
	if low, high := slices.Min(all), slices.Max(all); low < s.Lo || high > s.Hi {
		t.Errorf("Of(%d, %d, %d, %v) = %v, but answers are %d to %d", q.op, q.k, q.s, args, s, low, high)
	}
	if slices.Contains(tight, q.op) && (!slices.Contains(all, s.Lo) || !slices.Contains(all, s.Hi)) {
		t.Errorf("Of(%d, %d, %d, %v) = %v has an end that is no answer", q.op, q.k, q.s, args, s)
	}
	narrower(t, q, s, args)
}

// narrower draws in each end of each argument by one: by such steps every narrower argument is come to.
func narrower(t *testing.T, q request, s api.Span, args []api.Span) {
	t.Helper()
	for i, a := range args {
		if a.Lo == a.Hi {
			continue
		}
		for _, drawn := range list(of(a.Lo+1, a.Hi), of(a.Lo, a.Hi-1)) {
			parts := slices.Clone(args)
			parts[i] = drawn
			part, e := span.Of(q.op, q.k, q.s, parts...)
			if e != api.OK || part.Lo < s.Lo || part.Hi > s.Hi {
				t.Errorf("Of(%d, %d, %d, %v) = %v, but of %v it is %v, %d", q.op, q.k, q.s, args, s, parts, part, e)
			}
		}
	}
}

// TestSoundOfOne: promise 5.4.
func TestSoundOfOne(t *testing.T) {
	spans := slices.Concat(spansWithin(-9, 9), spansWithin(least, least+3), spansWithin(most-3, most), spansWithin(-1<<16-1, -1<<16+1), spansWithin(1<<15-1, 1<<15+1))
	for _, a := range spans {
		for _, q := range withConstants() {
			sound(t, q, a)
		}
	}
}

// TestSoundOfTwo: promise 5.4.
func TestSoundOfTwo(t *testing.T) {
	for _, op := range shares[2] {
		for _, a := range spansWithin(-5, 5) {
			for _, b := range spansWithin(-5, 5) {
				sound(t, request{op, 0, 0}, a, b)
			}
		}
	}
	var wide []api.Span
	for _, x := range []int{least + 1, -1 << 16, -32, -8, -1, 0, 8, 16, 31, 46340, 1 << 16, 1 << 30, most - 1} {
		wide = append(wide, spansWithin(x-1, x+1)...)
	}
	for _, op := range shares[2] {
		for _, a := range wide {
			for _, b := range wide {
				sound(t, request{op, 0, 0}, a, b)
			}
		}
	}
}

// TestSoundOfThree: promise 5.4.
func TestSoundOfThree(t *testing.T) {
	small := spansWithin(-2, 3)
	for _, op := range shares[3] {
		for _, a := range small {
			for _, b := range small {
				for _, c := range small {
					sound(t, request{op, 0, 0}, a, b, c)
				}
			}
		}
	}
}

// TestEveryOperatorIsAnswered: none of the operators is refused throughout, by which promise 5.4 would say nothing of it.
func TestEveryOperatorIsAnswered(t *testing.T) {
	for n, ops := range shares[1:] {
		for _, op := range ops {
			args := slices.Repeat(list(of(1, 2)), n+1)
			if s, e := span.Of(op, constant(op), 0, args...); e != api.OK || !span.Whole(s) {
				t.Errorf("Of(%d, %v) = %v, %d", op, args, s, e)
			}
		}
	}
}

// TestArgumentsStayAsTheyWere: rules 3, 4 and 6 of P1.
func TestArgumentsStayAsTheyWere(t *testing.T) {
	for n, ops := range shares[1:] {
		for _, op := range slices.Concat(ops, strangers) {
			room := slices.Repeat(list(of(-7, -3), of(2, 9), of(0, 5)), 3)
			before := slices.Clone(room)
			first, e := span.Of(op, constant(op), 0, room[:n+1]...)
			if !slices.Equal(room, before) {
				t.Fatalf("Of(%d) of %d spans changed them, or the room behind them", op, n+1)
			}
			span.Of(op, constant(op), 0, room[1:]...)
			clear(room)
			again, e2 := span.Of(op, constant(op), 0, before[:n+1]...)
			if first != again || e != e2 {
				t.Errorf("Of(%d) answers %v, %d, and then %v, %d", op, first, e, again, e2)
			}
		}
	}
}

// TestNoPanic asks with numbers of all sizes at all places: rules 1 and 2 of P1.
func TestNoPanic(t *testing.T) {
	wild := []int{math.MinInt64, least - 1, least, -1, 0, 1, 31, 63, most, most + 1, math.MaxInt64}
	for op := api.OpNum - 2; op <= api.OpMulS+2; op++ {
		for _, k := range wild {
			for _, s := range wild {
				for n := range 4 {
					args := make([]api.Span, n)
					for i := range args {
						args[i] = of(k, s)
					}
					got, e := span.Of(op, s, k, args...)
					if e != api.OK && got != (api.Span{}) || e == api.OK && !span.Whole(got) {
						t.Errorf("Of(%d, %d, %d, %v) = %v, %d", op, s, k, args, got, e)
					}
				}
			}
		}
	}
}
