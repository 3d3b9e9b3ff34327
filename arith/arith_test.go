package arith_test

import (
	"math"
	"math/big"
	"slices"
	"testing"

	"damask/api"
	"damask/arith"
)

// The ends of the numbers of 32 bits.
const (
	least = -1 << 31
	most  = 1<<31 - 1
)

// farther are numbers far from all that has 32 bits.
var farther = []int{math.MinInt64, math.MinInt64 + 1, -1 << 62, -1 << 33, -1 << 32, 1 << 32, 1<<32 + 1, 1 << 62, 1<<62 + 1, math.MaxInt64 - 1, math.MaxInt64}

// edges are numbers of 32 bits near which an operator's answer turns.
var edges = []int{
	least, least + 1, least / 2, -1<<16 - 1, -1 << 16, -255, -33, -32, -31, -8, -7, -3, -2, -1,
	0, 1, 2, 3, 7, 8, 30, 31, 32, 33, 255, 46340, 46341, 1 << 16, most / 2, 1 << 30, most - 1, most,
}

// shares lists the operators by how many arguments they have, as the chapter does.
var shares = [][]int{
	{api.OpNum, api.OpIn, api.OpPlace},
	{api.OpNeg, api.OpAbs, api.OpSgn, api.OpShlK, api.OpShrK, api.OpAndK, api.OpMulK, api.OpMulS},
	{
		api.OpAdd, api.OpSub, api.OpMul, api.OpDiv, api.OpMod, api.OpShl, api.OpShr, api.OpAnd, api.OpOr, api.OpXor,
		api.OpLt, api.OpLe, api.OpGt, api.OpGe, api.OpEq, api.OpNe, api.OpMin, api.OpMax,
	},
	{api.OpClamp, api.OpMed, api.OpSel},
}

// strangers are numbers that are no operator of register code.
var strangers = append([]int{-34, -33, -5, -4, -2, -1, api.OpNum - 1, api.OpUse, api.OpMulS + 1, api.OpMulS + 2, 64, 99, 128, 255, 256, 257, 1<<31 + api.OpAdd, 1<<32 + api.OpNeg}, farther...)

// bound is what a named constant may be.
type bound struct{ op, low, high int }

// firsts are the bounds of k, where it is named.
var firsts = []bound{
	{api.OpShlK, 0, 31}, {api.OpShrK, 0, 31}, {api.OpAndK, 0, most}, {api.OpMulK, least, most}, {api.OpMulS, 1, 1 << 62},
}

// constant answers a k that the operator takes.
func constant(op int) int {
	for _, b := range firsts {
		if b.op == op {
			return max(b.low, 1)
		}
	}
	return 0
}

// one answers so many arguments, all of them 1.
func one(n int) []int { return slices.Repeat([]int{1}, n) }

// asked holds Value against what it should answer.
func asked(t *testing.T, op, k, s int, args []int, want int, e api.Errno) {
	t.Helper()
	if x, got := arith.Value(op, k, s, args...); x != want || got != e {
		t.Errorf("Value(%d, %d, %d, %v) = %d, %d, not %d, %d", op, k, s, args, x, got, want, e)
	}
}

// refused asks Value for ErrInput.
func refused(t *testing.T, op, k, s int, args ...int) {
	t.Helper()
	asked(t, op, k, s, args, 0, api.ErrInput)
}

// TestArity: promise 4.1.
func TestArity(t *testing.T) {
	seen := map[int]int{}
	for n, list := range shares {
		for _, op := range list {
			seen[op]++
			if got := arith.Arity(op); got != n {
				t.Errorf("Arity(%d) = %d, not %d", op, got, n)
			}
		}
	}
	for op := -300; op <= 300; op++ {
		if got := arith.Arity(op); seen[op] == 0 && got != -1 {
			t.Errorf("Arity(%d) = %d, not -1", op, got)
		}
	}
	for _, op := range strangers {
		if got := arith.Arity(op); got != -1 {
			t.Errorf("Arity(%d) = %d, not -1", op, got)
		}
	}
}

// TestWord: promise 4.1.
func TestWord(t *testing.T) {
	for _, x := range edges {
		if !arith.Word(x) {
			t.Errorf("Word(%d) is false", x)
		}
	}
	for _, x := range append([]int{least - 2, least - 1, most + 1, most + 2}, farther...) {
		if arith.Word(x) {
			t.Errorf("Word(%d) is true", x)
		}
	}
}

// TestConstants: promise 4.1.
func TestConstants(t *testing.T) {
	for _, b := range firsts {
		for _, k := range []int{b.low, b.low + 1, b.low/2 + b.high/2, b.high - 1, b.high} {
			if !arith.Constants(b.op, k, 0) {
				t.Errorf("Constants(%d, %d, 0) is false", b.op, k)
			}
		}
		for _, k := range []int{b.low - 2, b.low - 1, b.high + 1, b.high + 2, math.MinInt64, math.MaxInt64} {
			if arith.Constants(b.op, k, 0) {
				t.Errorf("Constants(%d, %d, 0) is true", b.op, k)
			}
		}
	}
	for s := -70; s <= 130; s++ {
		for _, k := range []int{0, 1, 1 << 62, 1<<62 + 1} {
			want := s >= 0 && s <= 62 && k >= 1 && k <= 1<<62
			if got := arith.Constants(api.OpMulS, k, s); got != want {
				t.Errorf("Constants(OpMulS, %d, %d) = %v", k, s, got)
			}
		}
	}
	for _, s := range farther {
		if arith.Constants(api.OpMulS, 1, s) {
			t.Errorf("Constants(OpMulS, 1, %d) is true", s)
		}
	}
}

// TestConstantsThatAreNotNamed: promise 4.1.
func TestConstantsThatAreNotNamed(t *testing.T) {
	all := slices.Concat(strangers, shares[0], shares[1][:3], shares[2], shares[3])
	for _, k := range slices.Concat(edges, farther) {
		for _, s := range slices.Concat(edges, farther) {
			for _, op := range all {
				if !arith.Constants(op, k, s) {
					t.Fatalf("Constants(%d, %d, %d) is false", op, k, s)
				}
			}
		}
	}
	for _, s := range slices.Concat(edges, farther) {
		for _, op := range []int{api.OpShlK, api.OpShrK, api.OpAndK, api.OpMulK} {
			if !arith.Constants(op, 1, s) {
				t.Errorf("Constants(%d, 1, %d) is false", op, s)
			}
		}
	}
}

// floored answers a divided by b, rounded down.
func floored(a, b *big.Int) *big.Int {
	return new(big.Int).Div(a, b) // Euclid's, which rounds down where b is above 0
}

// power answers 2^n.
func power(n int) *big.Int { return new(big.Int).Lsh(big.NewInt(1), uint(n)) }

// yes answers 1 for what is so, else 0.
func yes(so bool) *big.Int {
	if so {
		return big.NewInt(1)
	}
	return big.NewInt(0)
}

// meaning answers what the chapter's table says, on numbers without bounds; nil beside an error. What is handed to it may be.
func meaning(op, k, s int, args []int) (*big.Int, api.Errno) {
	switch op {
	case api.OpShlK:
		return meaning(api.OpShl, 0, 0, []int{args[0], k})
	case api.OpShrK:
		return meaning(api.OpShr, 0, 0, []int{args[0], k})
	case api.OpAndK:
		return meaning(api.OpAnd, 0, 0, []int{args[0], k})
	case api.OpMulK:
		return meaning(api.OpMul, 0, 0, []int{args[0], k})
	}
	a := big.NewInt(int64(args[0]))
	switch len(args) {
	case 1:
		return meaningOfOne(op, k, s, a)
	case 2:
		return meaningOfTwo(op, a, big.NewInt(int64(args[1])))
	}
	b, c := args[1], args[2]
	switch op {
	case api.OpClamp:
		return big.NewInt(int64(slices.Min([]int{c, slices.Max([]int{args[0], b})}))), api.OK
	case api.OpMed:
		return big.NewInt(int64(slices.Sorted(slices.Values(args))[1])), api.OK
	}
	if a.Sign() != 0 {
		return big.NewInt(int64(b)), api.OK
	}
	return big.NewInt(int64(c)), api.OK
}

// meaningOfOne is meaning of one argument.
func meaningOfOne(op, k, s int, a *big.Int) (*big.Int, api.Errno) {
	switch op {
	case api.OpNeg:
		return new(big.Int).Neg(a), api.OK
	case api.OpAbs:
		return new(big.Int).Abs(a), api.OK
	case api.OpSgn:
		return big.NewInt(int64(a.Sign())), api.OK
	}
	product := new(big.Int).Mul(a, big.NewInt(int64(k)))
	if product.CmpAbs(power(62)) > 0 {
		return nil, api.ErrOverflow
	}
	return floored(product, power(s)), api.OK
}

// meaningOfTwo is meaning of two arguments.
func meaningOfTwo(op int, a, b *big.Int) (*big.Int, api.Errno) {
	x := new(big.Int)
	switch op {
	case api.OpDiv, api.OpMod:
		if b.Sign() == 0 {
			return nil, api.ErrDivZero
		}
		quotient := new(big.Int).Quo(a, b)
		if op == api.OpDiv {
			return quotient, api.OK
		}
		return x.Sub(a, x.Mul(b, quotient)), api.OK
	case api.OpShl, api.OpShr:
		if b.Sign() < 0 || b.Cmp(big.NewInt(31)) > 0 {
			return nil, api.ErrOverflow
		}
		by := power(int(b.Int64()))
		if op == api.OpShl {
			return x.Mul(a, by), api.OK
		}
		return floored(a, by), api.OK
	case api.OpAdd:
		return x.Add(a, b), api.OK
	case api.OpSub:
		return x.Sub(a, b), api.OK
	case api.OpMul:
		return x.Mul(a, b), api.OK
	case api.OpAnd:
		return x.And(a, b), api.OK
	case api.OpOr:
		return x.Or(a, b), api.OK
	case api.OpXor:
		return x.Xor(a, b), api.OK
	}
	return meaningOfOrder(op, a, b), api.OK
}

// meaningOfOrder is meaning of what holds two numbers against each other.
func meaningOfOrder(op int, a, b *big.Int) *big.Int {
	order := a.Cmp(b)
	switch op {
	case api.OpLt:
		return yes(order < 0)
	case api.OpLe:
		return yes(order <= 0)
	case api.OpGt:
		return yes(order > 0)
	case api.OpGe:
		return yes(order >= 0)
	case api.OpEq:
		return yes(order == 0)
	case api.OpNe:
		return yes(order != 0)
	}
	if (op == api.OpMin) == (order < 0) {
		return a
	}
	return b
}

// held holds Value against the table.
func held(t *testing.T, op, k, s int, args ...int) {
	t.Helper()
	x, e := meaning(op, k, s, args)
	if e == api.OK && (x.Cmp(big.NewInt(least)) < 0 || x.Cmp(big.NewInt(most)) > 0) {
		e = api.ErrOverflow
	}
	if e != api.OK {
		asked(t, op, k, s, args, 0, e)
		return
	}
	asked(t, op, k, s, args, int(x.Int64()), api.OK)
}

// TestTable holds every operator against the chapter's table, at the edges: promise 4.2.
func TestTable(t *testing.T) {
	for _, a := range edges {
		for _, op := range shares[1][:3] {
			held(t, op, 0, 0, a)
		}
		for _, b := range edges {
			for _, op := range shares[2] {
				held(t, op, 0, 0, a, b)
			}
			for _, c := range edges {
				for _, op := range shares[3] {
					held(t, op, 0, 0, a, b, c)
				}
			}
		}
	}
}

// TestTableOfSmallNumbers leaves out no pair near 0.
func TestTableOfSmallNumbers(t *testing.T) {
	for a := -40; a <= 40; a++ {
		for b := -40; b <= 40; b++ {
			for _, op := range shares[2] {
				held(t, op, 0, 0, a, b)
			}
		}
	}
	for a := -5; a <= 5; a++ {
		for b := -5; b <= 5; b++ {
			for c := -5; c <= 5; c++ {
				for _, op := range shares[3] {
					held(t, op, 0, 0, a, b, c)
				}
			}
		}
	}
}

func TestTableWithConstants(t *testing.T) {
	for _, a := range edges {
		for k := range 32 {
			held(t, api.OpShlK, k, 0, a)
			held(t, api.OpShrK, k, 0, a)
		}
		for _, k := range edges {
			held(t, api.OpMulK, k, 0, a)
			if k >= 0 {
				held(t, api.OpAndK, k, 0, a)
			}
		}
	}
}

// TestTableOfScaledProducts asks OpMulS near the greatest product of each argument, and at each shift.
func TestTableOfScaledProducts(t *testing.T) {
	for _, a := range edges {
		factors := []int{1, 2, 3, 171, 1 << 31, 1431655766, 1 << 32, 1<<61 - 1, 1 << 61, 1<<62 - 1, 1 << 62}
		if a != 0 {
			highest := 1 << 62 / max(a, -a)
			factors = append(factors, max(highest-1, 1), highest, min(highest+1, 1<<62))
		}
		for _, k := range factors {
			for s := range 63 {
				held(t, api.OpMulS, k, s, a)
			}
		}
	}
}

// TestValueOfExamples has what the chapter and the edges that it names say, written out.
func TestValueOfExamples(t *testing.T) {
	for _, c := range []struct {
		op   int
		args []int
		want int
		e    api.Errno
	}{
		{api.OpDiv, []int{-7, 2}, -3, api.OK},
		{api.OpMod, []int{-7, 2}, -1, api.OK},
		{api.OpDiv, []int{7, -2}, -3, api.OK},
		{api.OpMod, []int{7, -2}, 1, api.OK},
		{api.OpDiv, []int{-7, -2}, 3, api.OK},
		{api.OpMod, []int{-7, -2}, -1, api.OK},
		{api.OpDiv, []int{7, 2}, 3, api.OK},
		{api.OpMod, []int{7, 2}, 1, api.OK},
		{api.OpDiv, []int{1, 0}, 0, api.ErrDivZero},
		{api.OpDiv, []int{0, 0}, 0, api.ErrDivZero},
		{api.OpMod, []int{1, 0}, 0, api.ErrDivZero},
		{api.OpMod, []int{least, 0}, 0, api.ErrDivZero},
		{api.OpDiv, []int{least, -1}, 0, api.ErrOverflow},
		{api.OpMod, []int{least, -1}, 0, api.OK}, // the quotient has more bits, what is left over hasn't
		{api.OpDiv, []int{least, 1}, least, api.OK},
		{api.OpDiv, []int{most, -1}, -most, api.OK},
		{api.OpShr, []int{-1, 4}, -1, api.OK},
		{api.OpShr, []int{-1, 31}, -1, api.OK},
		{api.OpShr, []int{-3, 1}, -2, api.OK},
		{api.OpShr, []int{3, 1}, 1, api.OK},
		{api.OpShr, []int{most, 31}, 0, api.OK},
		{api.OpShr, []int{least, 31}, -1, api.OK},
		{api.OpShr, []int{-5, 0}, -5, api.OK},
		{api.OpShr, []int{0, -1}, 0, api.ErrOverflow},
		{api.OpShr, []int{0, 32}, 0, api.ErrOverflow},
		{api.OpShr, []int{-1, 32}, 0, api.ErrOverflow},
		{api.OpShr, []int{1, -1}, 0, api.ErrOverflow},
		{api.OpShl, []int{-1, 31}, least, api.OK},
		{api.OpShl, []int{-2, 31}, 0, api.ErrOverflow},
		{api.OpShl, []int{1, 31}, 0, api.ErrOverflow},
		{api.OpShl, []int{1, 30}, 1 << 30, api.OK},
		{api.OpShl, []int{1, 32}, 0, api.ErrOverflow},
		{api.OpShl, []int{1, -1}, 0, api.ErrOverflow},
		{api.OpShl, []int{0, 31}, 0, api.OK},
		{api.OpShl, []int{0, 32}, 0, api.ErrOverflow},
		{api.OpShl, []int{0, -1}, 0, api.ErrOverflow},
		{api.OpShl, []int{most, 0}, most, api.OK},
		{api.OpAnd, []int{-2, 7}, 6, api.OK},
		{api.OpAnd, []int{least, -1}, least, api.OK},
		{api.OpOr, []int{-8, 3}, -5, api.OK},
		{api.OpOr, []int{least, most}, -1, api.OK},
		{api.OpXor, []int{-1, 5}, -6, api.OK},
		{api.OpXor, []int{least, most}, -1, api.OK},
		{api.OpXor, []int{-1, -1}, 0, api.OK},
		{api.OpMed, []int{9, 1, 5}, 5, api.OK},
		{api.OpMed, []int{4, 4, 9}, 4, api.OK},
		{api.OpClamp, []int{3, 9, 5}, 5, api.OK},
		{api.OpClamp, []int{9, 1, 5}, 5, api.OK},
		{api.OpClamp, []int{0, 1, 5}, 1, api.OK},
		{api.OpClamp, []int{3, 1, 5}, 3, api.OK},
		{api.OpClamp, []int{10, 9, 5}, 5, api.OK},
		{api.OpSel, []int{-1, 2, 3}, 2, api.OK},
		{api.OpSel, []int{0, 2, 3}, 3, api.OK},
		{api.OpNeg, []int{least}, 0, api.ErrOverflow},
		{api.OpNeg, []int{least + 1}, most, api.OK},
		{api.OpAbs, []int{least}, 0, api.ErrOverflow},
		{api.OpAbs, []int{-5}, 5, api.OK},
		{api.OpSgn, []int{least}, -1, api.OK},
		{api.OpSgn, []int{0}, 0, api.OK},
		{api.OpSgn, []int{most}, 1, api.OK},
		{api.OpAdd, []int{most - 1, 1}, most, api.OK},
		{api.OpAdd, []int{most, 1}, 0, api.ErrOverflow},
		{api.OpAdd, []int{least, -1}, 0, api.ErrOverflow},
		{api.OpSub, []int{least + 1, 1}, least, api.OK},
		{api.OpSub, []int{least, 1}, 0, api.ErrOverflow},
		{api.OpSub, []int{0, least}, 0, api.ErrOverflow},
		{api.OpMul, []int{1 << 16, 1 << 15}, 0, api.ErrOverflow},
		{api.OpMul, []int{-1 << 16, 1 << 15}, least, api.OK},
		{api.OpMul, []int{least, least}, 0, api.ErrOverflow},
	} {
		asked(t, c.op, 0, 0, c.args, c.want, c.e)
	}
}

func TestConstantOperatorsOfExamples(t *testing.T) {
	for _, c := range []struct {
		op, k, s, a, want int
		e                 api.Errno
	}{
		{api.OpMulS, 1431655766, 32, 7, 2, api.OK},
		{api.OpMulS, 1431655766, 32, -7, -3, api.OK},
		{api.OpMulS, 171, 9, 255, 85, api.OK},
		{api.OpMulS, 1 << 62, 62, 1, 1, api.OK},
		{api.OpMulS, 1 << 62, 62, -1, -1, api.OK},
		{api.OpMulS, 1 << 62, 62, 0, 0, api.OK},
		{api.OpMulS, 1 << 62, 62, 2, 0, api.ErrOverflow},
		{api.OpMulS, 1 << 62, 62, -2, 0, api.ErrOverflow},
		{api.OpMulS, 1 << 62, 62, 4, 0, api.ErrOverflow}, // 2^64, which would wrap to 0
		{api.OpMulS, 1 << 62, 62, least, 0, api.ErrOverflow},
		{api.OpMulS, 1 << 62, 0, 0, 0, api.OK},
		{api.OpMulS, 1 << 62, 0, 1, 0, api.ErrOverflow},
		{api.OpMulS, 1 << 31, 31, least, least, api.OK}, // just 2^62
		{api.OpMulS, 1<<31 + 1, 32, least, 0, api.ErrOverflow},
		{api.OpMulS, 1<<31 + 1, 32, most, 1<<30 - 1, api.OK}, // 2^62 - 1
		{api.OpMulS, 1<<31 + 2, 32, most, 0, api.ErrOverflow},
		{api.OpMulS, 1, 0, least, least, api.OK},
		{api.OpMulS, 1, 0, most, most, api.OK},
		{api.OpMulS, 1, 62, most, 0, api.OK},
		{api.OpMulS, 1, 62, -1, -1, api.OK},
		{api.OpMulS, 2, 0, most, 0, api.ErrOverflow},
		{api.OpMulS, 2, 1, most, most, api.OK},
		{api.OpShlK, 31, 0, -1, least, api.OK},
		{api.OpShlK, 31, 0, 1, 0, api.ErrOverflow},
		{api.OpShlK, 32, 0, 0, 0, api.ErrInput}, // of OpShl the same count is ErrOverflow
		{api.OpShlK, -1, 0, 0, 0, api.ErrInput},
		{api.OpShrK, 31, 0, least, -1, api.OK},
		{api.OpShrK, 32, 0, 0, 0, api.ErrInput},
		{api.OpShrK, -1, 0, 0, 0, api.ErrInput},
		{api.OpAndK, 7, 0, -2, 6, api.OK},
		{api.OpAndK, most, 0, -1, most, api.OK},
		{api.OpAndK, most + 1, 0, -1, 0, api.ErrInput},
		{api.OpAndK, -1, 0, -1, 0, api.ErrInput},
		{api.OpMulK, -3, 0, 5, -15, api.OK},
		{api.OpMulK, least, 0, 1, least, api.OK},
		{api.OpMulK, least, 0, -1, 0, api.ErrOverflow},
		{api.OpMulK, most, 0, -1, -most, api.OK},
		{api.OpMulK, least - 1, 0, 0, 0, api.ErrInput},
		{api.OpMulK, most + 1, 0, 0, 0, api.ErrInput},
		{api.OpMulS, 0, 0, 1, 0, api.ErrInput},
		{api.OpMulS, -1, 0, 1, 0, api.ErrInput},
		{api.OpMulS, 1<<62 + 1, 62, 0, 0, api.ErrInput},
		{api.OpMulS, 1, -1, 0, 0, api.ErrInput},
		{api.OpMulS, 1, 63, 0, 0, api.ErrInput},
	} {
		asked(t, c.op, c.k, c.s, []int{c.a}, c.want, c.e)
	}
}

func TestValueOfNoOperator(t *testing.T) {
	for _, op := range slices.Concat(strangers, shares[0]) {
		for n := range 5 {
			refused(t, op, 1, 1, one(n)...)
			refused(t, op, 0, 0, make([]int, n)...)
		}
		refused(t, op, math.MinInt64, math.MaxInt64, farther...)
	}
}

func TestValueOfOtherCounts(t *testing.T) {
	for n, list := range shares {
		for _, op := range list {
			for count := range 6 {
				if n == 0 || count != n {
					refused(t, op, constant(op), 0, one(count)...)
				}
			}
			if n == 0 {
				continue
			}
			if _, e := arith.Value(op, constant(op), 0, one(n)...); e != api.OK {
				t.Errorf("Value(%d) of %d arguments: %d", op, n, e)
			}
			refused(t, op, constant(op), 0, make([]int, 1000)...)
			refused(t, op, constant(op), 0, []int{}...)
		}
	}
}

// TestValueOfLongArguments lays an argument of more than 32 bits at each of an operator's places.
func TestValueOfLongArguments(t *testing.T) {
	for n, list := range shares {
		for _, op := range list {
			for i := range n {
				for _, x := range append([]int{least - 1, most + 1}, farther...) {
					args := one(n)
					args[i] = x
					refused(t, op, constant(op), 0, args...)
				}
				for _, x := range []int{least, most} {
					args := one(n)
					args[i] = x
					held(t, op, constant(op), 0, args...)
				}
			}
		}
	}
}

// TestErrInputComesFirst has arguments for which other errors would apply too.
func TestErrInputComesFirst(t *testing.T) {
	refused(t, api.OpDiv, 0, 0, most+1, 0)
	refused(t, api.OpMod, 0, 0, least-1, 0)
	refused(t, api.OpDiv, 0, 0, 1, 0, 0)
	refused(t, api.OpMod, 0, 0, 0)
	refused(t, api.OpShl, 0, 0, most+1, 32)
	refused(t, api.OpShl, 0, 0, 1, most+1)
	refused(t, api.OpShr, 0, 0, 1, least-1)
	refused(t, api.OpShr, 0, 0, 1, -1, 1)
	refused(t, api.OpAdd, 0, 0, most, most, most)
	refused(t, api.OpNeg, 0, 0, least-1)
	refused(t, api.OpMulS, 1<<62, 63, 2)
	refused(t, api.OpMulS, 1<<62, 62, most+1)
	refused(t, api.OpMulS, 0, 0, math.MinInt64)
	refused(t, api.OpSel, 0, 0, 1, 2, most+1) // the part that isn't chosen counts too
	refused(t, api.OpSel, 0, 0, 0, least-1, 2)
}

// TestConstantsNotLookedAt: Value answers the same, whatever stands where a constant isn't named.
func TestConstantsNotLookedAt(t *testing.T) {
	some := []int{math.MinInt64, least - 1, -1, 0, 1, 32, 63, most + 1, 1<<62 + 1, math.MaxInt64}
	for _, k := range some {
		for _, s := range some {
			for _, a := range []int{least, -7, 0, 7, most} {
				for _, op := range shares[1][:3] {
					held(t, op, k, s, a)
				}
				for _, op := range shares[1][3:7] {
					held(t, op, 3, s, a)
				}
				for _, op := range shares[2] {
					held(t, op, k, s, a, 2)
					held(t, op, k, s, a, 0)
				}
				for _, op := range shares[3] {
					held(t, op, k, s, a, -3, 3)
				}
			}
		}
	}
}

// TestLaws: promise 4.3.
func TestLaws(t *testing.T) {
	value := func(op int, args ...int) (int, bool) {
		x, e := arith.Value(op, 0, 0, args...)
		return x, e == api.OK
	}
	for _, a := range edges {
		for _, b := range edges {
			quotient, divides := value(api.OpDiv, a, b)
			rest, leaves := value(api.OpMod, a, b)
			if divides && leaves && quotient*b+rest != a {
				t.Errorf("%d by %d is %d, and %d is left", a, b, quotient, rest)
			}
			if (b == 0) == leaves || !divides && b != 0 && (a != least || b != -1) {
				t.Errorf("%d by %d: OpDiv answers %v, OpMod %v", a, b, divides, leaves)
			}
			if up, ok := value(api.OpShl, a, b); ok {
				if down, ok := value(api.OpShr, up, b); !ok || down != a {
					t.Errorf("%d shifted by %d there and back is %d", a, b, down)
				}
			}
			both, _ := value(api.OpAnd, a, b)
			either, _ := value(api.OpOr, a, b)
			if both+either != a+b {
				t.Errorf("%d and %d: OpAnd %d and OpOr %d", a, b, both, either)
			}
			if apart, _ := value(api.OpXor, a, b); apart != either-both {
				t.Errorf("%d and %d: OpXor %d", a, b, apart)
			}
		}
	}
}

// TestValueLeavesItsArguments: the rules 4 and 6 of P1.
func TestValueLeavesItsArguments(t *testing.T) {
	for n, list := range shares {
		for _, op := range list {
			for _, x := range []int{least, -9, 0, 9, most, most + 1} {
				room := []int{x, 5, -5, 7, 11, 13}
				before := slices.Clone(room)
				first, e := arith.Value(op, constant(op), 0, room[:n]...)
				if !slices.Equal(room, before) {
					t.Errorf("Value(%d) writes into its arguments: %v", op, room)
				}
				room[0], room[1], room[2] = 1, 2, 3
				arith.Value(op, constant(op), 0, room[:n]...)
				if again, f := arith.Value(op, constant(op), 0, before[:n]...); again != first || f != e {
					t.Errorf("Value(%d) answers %d, %d, and then %d, %d", op, first, e, again, f)
				}
			}
		}
	}
}
