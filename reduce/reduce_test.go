package reduce_test

import (
	"fmt"
	"math"
	"math/bits"
	"slices"
	"strings"
	"testing"

	"damask/api"
	"damask/arith"
	"damask/code"
	"damask/fold"
	"damask/kind"
	"damask/lower"
	"damask/parse"
	"damask/reduce"
	"damask/share"
	"damask/verify"
)

// far are numbers far from all that may stand in a code.
var far = []int{math.MinInt, math.MinInt + 1, -1 << 62, -1 << 32, least - 1, 1 << 32, 1<<32 + 1, 1<<62 + 1, math.MaxInt - 1, math.MaxInt}

// small is the kind of the chapter's sounds.
var small = api.Kind{Form: api.Sound, Depth: 8}

// The chapter's examples

func TestExamples(t *testing.T) {
	for _, row := range []struct {
		k          api.Kind
		d          int
		name, want string
	}{
		{image, 4, "div", "shrk 0 2"}, {image, 4, "mod", "andk 0 3"}, {image, 8, "mul", "shlk 0 3"}, {image, 10, "mul", "mulk 0 10"}, {image, 1, "mul", "shlk 0 0"},
		{small, 4, "div", "shrk 0 31; andk 2 3; add 0 3; shrk 4 2"},
		{image, 3, "div", "muls 0 171 9"}, {small, 3, "div", "muls 0 171 9; shrk 0 31; sub 2 3"}, {image, 3, "mod", "muls 0 171 9; mulk 2 3; sub 0 3"},
		{image, -4, "div", "div 0 1"}, {image, 1, "div", "div 0 1"}, {small, -4, "div", "div 0 1"}, {small, 1, "div", "div 0 1"},
	} {
		start := fmt.Sprintf("place 15; num %d; ", row.d)
		becomesFor(t, row.k, start+row.name+" 0 1", start+row.want)
	}
	magic(t, 255, 3, 171, 9)
	magic(t, 0, 7, 1, 0)
	// The document's sixth example, of the whole.
	becomes(t, "place 16; num 3; div 0 1", "place 16; num 3; muls 0 171 9")
}

// 16.1: errors

// quotients writes two numbers and so many divisions of the one by the other: 4 each, and 2.
func quotients(count int) string { return "num 1; num 2" + strings.Repeat("; div 0 1", count) }

func TestErrCode(t *testing.T) {
	refused(t, api.Code{}, api.ErrCode)
	refused(t, api.Code{Kind: image}, api.ErrCode)
	refused(t, api.Code{Kind: image, Insts: []api.Inst{}}, api.ErrCode)
	for _, k := range []api.Kind{{Form: 2, Depth: 8}, {Form: -1, Depth: 8}, {Form: 0, Depth: 0}, {Form: 1, Depth: 17}, {Form: 1, Depth: -1}, {Form: 1 << 32, Depth: 8}} {
		for _, text := range []string{"num 1", "num 1; num 1", "in lo", "place 0", "num 2; num 3; mul 1 0", "place 44", "num 0; div 0 0"} {
			refused(t, codedFor(k, text), api.ErrCode)
		}
	}
	for _, text := range []string{
		"neg 0", "num 1; neg 1", "num 1; neg 2; num 1", "num 1; add 0 1", "num 1; mul 1 0", "num 1; div 0 1", "num 1; mod 0 -1", "num 1; sel 0 0 1", "num 1; neg -1", "use 0 0",
		"num 2147483648", "num -2147483649", "in 6", "in -1", "place 256", "place -1", "num 1; shlk 0 32", "num 1; shrk 0 -1", "num 1; andk 0 -1", "num 1; mulk 0 2147483648", "num 1; muls 0 0 0", "num 1; muls 0 1 63",
		"num 1; out 1", "num 1; num 1; out 2", "num 1; num 1; add 1 -1", "num 1; num 1; add 2 0", strings.Repeat("num 0; ", 200) + "num 0",
	} {
		refused(t, coded(text), api.ErrCode)
	}
	refused(t, api.Code{Kind: image, Insts: []api.Inst{{Op: api.OpNum}}, Out: -1}, api.ErrCode)
	for _, op := range append([]int{-1, 0, api.OpUse, api.OpMulS + 1, 1<<32 + api.OpNum, 1<<32 + api.OpMul}, far...) {
		refused(t, api.Code{Kind: image, Insts: []api.Inst{{Op: op}}}, api.ErrCode)
		refused(t, api.Code{Kind: image, Insts: []api.Inst{{Op: api.OpNum}, {Op: api.OpNum}, {Op: op, B: 1}}}, api.ErrCode)
	}
	// A field that the operator hasn't isn't 0.
	for _, n := range []api.Inst{{Op: api.OpNum, A: 1}, {Op: api.OpNum, S: 1}, {Op: api.OpIn, K: api.InLo, C: 1}, {Op: api.OpPlace, B: -1}, {Op: api.OpNeg, B: 1}, {Op: api.OpMul, C: 1}, {Op: api.OpMul, K: 1}, {Op: api.OpAnd, S: 1}, {Op: api.OpShl, K: 1}, {Op: api.OpMulK, S: 1}} {
		refused(t, api.Code{Kind: image, Insts: []api.Inst{{Op: api.OpNum}, {Op: api.OpNum}, n}}, api.ErrCode)
	}
}

func TestErrAhead(t *testing.T) {
	for _, text := range []string{"place 44", "place 255", "num 1; place 44; out 0", "place 44; num 2; mul 0 1", "place 44; num 2; mod 0 1", "num 0; div 0 0; place 44", quotients(50) + "; place 44"} {
		refused(t, coded(text), api.ErrAhead)
	}
	refused(t, codedFor(sound, "place 31"), api.ErrAhead)
	refused(t, codedFor(sound, "place 43; num 4; div 0 1"), api.ErrAhead)
}

// The error is that of the code as it was.
func TestErrDivZero(t *testing.T) {
	for _, text := range []string{
		"num 0; div 0 0", "num 0; mod 0 0", "num 1; in lo; div 0 1", "place 16; num 0; div 0 1", "place 16; num 0; mod 0 1", "place 16; num 1; div 1 0", "place 16; mod 0 0", "num 1; num 0; div 0 1; out 0",
		"place 16; num 4; div 0 1; div 1 2", "place 16; num 4; mod 0 1; mod 1 2", "num 0; div 0 0; num most; add 2 2", "num 0; mod 0 0; " + strings.Repeat("num 0; ", 198-2) + "mod 0 0",
	} {
		refused(t, coded(text), api.ErrDivZero)
	}
	refused(t, codedFor(sound, "num 1; in mid; mod 0 1"), api.ErrDivZero)
}

func TestErrOverflow(t *testing.T) {
	for _, text := range []string{
		"num most; num 1; add 1 0", "num least; neg 0", "num least; abs 0", "num 1; num 32; shl 0 1", "num 1; num -1; shr 0 1", "place 16; num 32; shr 0 1", "place 16; num -1; shl 0 1", "num 1; shlk 0 31", "num 2; muls 0 4611686018427387904 62", "num least; num -1; div 0 1",
		"place 16; num 24; shl 0 1", "place 16; num 16777216; mul 0 1", "place 16; num 16777216; mul 1 0", "num most; num 2; mul 0 1", "num least; num -1; mul 0 1", "num 1; shlk 0 31; num 0; div 2 2", "place 16; num 16; shl 1 0",
	} {
		refused(t, coded(text), api.ErrOverflow)
	}
	refused(t, codedFor(sound, "in x; mul 0 0"), api.ErrOverflow)
}

// A code that would cost less behind the pass is refused all the same.
func TestErrCost(t *testing.T) {
	refused(t, coded(quotients(50)), api.ErrCost)
	refused(t, coded("num 1; num 4"+strings.Repeat("; mod 0 1", 34)), api.ErrCost)
	refused(t, coded(quotients(49)+"; num 1; num 1; num 1"), api.ErrCost)
	becomes(t, quotients(49)+"; num 1; num 1", "num 1; num 2"+strings.Repeat("; shrk 0 1", 49)+"; num 1; num 1")
	becomes(t, "num 1; num 4"+strings.Repeat("; mod 0 1", 33), "num 1; num 4"+strings.Repeat("; andk 0 3", 33))
}

// What costs most is just as dear behind the pass, with as many instructions as may be.
func TestNoDearer(t *testing.T) {
	was, is, next := "place 15; num 4; num 1; num 1", "place 15; num 4; num 1; num 1", 4
	for range 49 {
		was += "; div 0 1"
		is += fmt.Sprintf("; shrk 0 31; andk %d 3; add 0 %d; shrk %d 2", next, next+1, next+2)
		next += 4
	}
	becomesFor(t, small, was, is)
	was, is, next = "place 15; num 4", "place 15; num 4", 2
	for range 33 {
		was += "; mod 0 1"
		is += fmt.Sprintf("; shrk 0 31; andk %d 3; add 0 %d; shrk %d 2; shlk %d 2; sub 0 %d", next, next+1, next+2, next+3, next+4)
		next += 6
	}
	becomesFor(t, small, was, is)
}

// 16.1: where the number stands

func TestProduct(t *testing.T) {
	becomes(t, "place 16; num 10; mul 0 1", "place 16; num 10; mulk 0 10")
	becomes(t, "place 16; num 10; mul 1 0", "place 16; num 10; mulk 0 10")
	becomes(t, "num 10; place 16; mul 0 1", "num 10; place 16; mulk 1 10")
	becomes(t, "num 10; place 16; mul 1 0", "num 10; place 16; mulk 1 10")
	// In both: that in B.
	becomes(t, "num 3; num 8; mul 0 1", "num 3; num 8; shlk 0 3")
	becomes(t, "num 3; num 8; mul 1 0", "num 3; num 8; mulk 1 3")
	becomes(t, "num 3; num 5; mul 0 1", "num 3; num 5; mulk 0 5")
	becomes(t, "num 8; mul 0 0", "num 8; shlk 0 3")
	becomes(t, "num -7; mul 0 0", "num -7; mulk 0 -7")
	// In neither.
	stays(t, "place 16; place 10; mul 0 1")
	stays(t, "place 16; mul 0 0")
	stays(t, "place 16; num 10; neg 1; mul 0 2")
}

// around are 0, the powers of two, and what stands beside them, with both signs.
func around() []int {
	var list []int
	for x := -300; x <= 300; x++ {
		list = append(list, x)
	}
	for n := 9; n <= 31; n++ {
		for _, x := range []int{1<<n - 1, 1 << n, 1<<n + 1} {
			list = append(list, x, -x)
		}
	}
	return slices.DeleteFunc(list, func(x int) bool { return !arith.Word(x) })
}

func TestProductByAnyNumber(t *testing.T) {
	got := map[bool]int{}
	for _, k := range around() {
		want := fmt.Sprint("mulk 1 ", k)
		power := k > 0 && bits.OnesCount(uint(k)) == 1 && k <= 1<<30
		if power {
			want = fmt.Sprint("shlk 1 ", bits.TrailingZeros(uint(k)))
		}
		got[power]++
		start := fmt.Sprintf("place 16; sgn 0; num %d; ", k)
		becomes(t, start+"mul 1 2", start+want)
		becomes(t, start+"mul 2 1", start+want)
	}
	if got[true] != 31 || got[false] < 600 {
		t.Errorf("powers or not: %v", got)
	}
	becomes(t, "place 16; sgn 0; num 1073741824; mul 1 2", "place 16; sgn 0; num 1073741824; shlk 1 30")
	becomes(t, "place 16; num 0; mul 0 1", "place 16; num 0; mulk 0 0")
	becomes(t, "place 16; num 1; mul 1 0", "place 16; num 1; shlk 0 0")
	becomes(t, "place 16; sgn 0; num least; mul 1 2", "place 16; sgn 0; num least; mulk 1 least")
	becomes(t, "place 16; num -1; mul 0 1; num -4; mul 3 0", "place 16; num -1; mulk 0 -1; num -4; mulk 0 -4")
}

func TestMask(t *testing.T) {
	for _, k := range []int{0, 1, 2, 7, 8, 254, 255, 256, 1 << 30, most} {
		start := fmt.Sprintf("place 16; num %d; ", k)
		becomes(t, start+"and 0 1", start+fmt.Sprint("andk 0 ", k))
		becomes(t, start+"and 1 0", start+fmt.Sprint("andk 0 ", k))
		becomes(t, start+"and 1 1", start+fmt.Sprint("andk 1 ", k))
		start = fmt.Sprintf("place 0; num %d; ", k)
		becomesFor(t, sound, start+"and 0 1", start+fmt.Sprint("andk 0 ", k))
		becomesFor(t, sound, start+"and 1 0", start+fmt.Sprint("andk 0 ", k))
	}
	for _, k := range []int{-1, -2, -8, -255, -1 << 30, least} {
		start := fmt.Sprintf("place 16; num %d; ", k)
		stays(t, start+"and 0 1")
		stays(t, start+"and 1 0")
		stays(t, start+"and 1 1")
	}
	// In both: that in B, if it is from 0 on, else that in A.
	becomes(t, "num 12; num 10; and 0 1", "num 12; num 10; andk 0 10")
	becomes(t, "num 12; num 10; and 1 0", "num 12; num 10; andk 1 12")
	becomes(t, "num 12; num -10; and 0 1", "num 12; num -10; andk 1 12")
	becomes(t, "num 12; num -10; and 1 0", "num 12; num -10; andk 1 12")
	becomes(t, "num 0; num -1; and 0 1", "num 0; num -1; andk 1 0")
	stays(t, "num -12; num -10; and 0 1")
	// In neither, and of operators that have no line.
	stays(t, "place 16; place 10; and 0 1")
	stays(t, "place 16; num 7; or 0 1; xor 0 1; or 1 0; xor 1 0")
}

func TestShift(t *testing.T) {
	for k := range 32 {
		start := fmt.Sprintf("place 16; num %d; ", k)
		becomes(t, start+"shr 0 1", start+fmt.Sprint("shrk 0 ", k))
		becomesFor(t, sound, strings.Replace(start, "16", "0", 1)+"shr 0 1", strings.Replace(start, "16", "0", 1)+fmt.Sprint("shrk 0 ", k))
		if k <= 23 {
			becomes(t, start+"shl 0 1", start+fmt.Sprint("shlk 0 ", k))
		}
		start = fmt.Sprintf("place 16; sgn 0; neg 1; num %d; ", k)
		becomes(t, start+"shl 2 3", start+fmt.Sprint("shlk 2 ", k))
		becomes(t, start+"shr 2 3", start+fmt.Sprint("shrk 2 ", k))
		// A number in A alone.
		start = fmt.Sprintf("place 16; sgn 0; num %d; ", k)
		stays(t, start+"shl 2 1; shr 2 1")
		// In both.
		start = fmt.Sprintf("num 1; neg 0; num %d; num -1; ", k)
		becomes(t, start+"shl 3 2; shr 3 2", start+fmt.Sprintf("shlk 3 %d; shrk 3 %d", k, k))
	}
	becomes(t, "num 3; shl 0 0; shr 0 0", "num 3; shlk 0 3; shrk 0 3")
	stays(t, "place 16; andk 0 7; shl 0 1; shr 0 1")
}

// A register that has only one value but is no OpNum is no number.
func TestOneValueIsNoNumber(t *testing.T) {
	asked := 0
	for _, single := range []string{"in lo", "in hi", "in mid", "neg 1", "abs 1", "sgn 1", "add 1 2", "sub 1 2", "min 1 2", "max 1 2", "xor 1 1", "or 1 2", "lt 2 1", "eq 1 1", "sel 1 1 2", "med 1 2 1", "clamp 1 2 2", "andk 0 0", "andk 1 4", "mulk 0 0", "mulk 1 3", "shlk 1 1", "shrk 1 1", "muls 1 1 1"} {
		for _, name := range []string{"mul", "and", "shl", "shr", "div", "mod"} {
			for _, registers := range []string{"0 3", "3 0", "3 3"} {
				text := fmt.Sprintf("place 16; num 5; num 2; %s; %s %s", single, name, registers)
				if _, e := verify.Verify(coded(text)); e == api.OK {
					stays(t, text)
					asked++
				}
			}
		}
	}
	if asked < 200 {
		t.Errorf("%d codes are asked", asked)
	}
	// Beside a number it is the other register.
	becomes(t, "in hi; num 8; mul 0 1; and 1 0; div 0 1; mod 0 1; shr 0 1", "in hi; num 8; shlk 0 3; andk 0 8; shrk 0 3; andk 0 7; shrk 0 8")
	becomesFor(t, small, "in lo; num 8; div 0 1", "in lo; num 8; shrk 0 31; andk 2 7; add 0 3; shrk 4 3")
}

// The number stands in A alone, or in neither.
func TestNumberDivided(t *testing.T) {
	for _, name := range []string{"div", "mod"} {
		for _, x := range []int{least, -8, -3, 0, 1, 4, 10, most} {
			text := fmt.Sprintf("place 16; num 1; add 0 1; num %d; ", x)
			stays(t, text+name+" 3 2")
			stays(t, text+name+" 0 2")
			stays(t, text+name+" 2 2")
		}
	}
	// In both.
	becomes(t, "num 100; num 4; div 0 1; mod 0 1", "num 100; num 4; shrk 0 2; andk 0 3")
	becomes(t, "num -100; num 4; div 0 1", "num -100; num 4; shrk 0 31; andk 2 3; add 0 3; shrk 4 2")
	becomes(t, "num 4; div 0 0; mod 0 0", "num 4; shrk 0 2; andk 0 3")
	becomes(t, "num 3; div 0 0", "num 3; muls 0 3 3")
}

// Operators that have no line stay, whatever they read.
func TestOtherOperatorsStay(t *testing.T) {
	for _, name := range all {
		if slices.Contains([]string{"mul", "and", "shl", "shr", "div", "mod"}, name) {
			continue
		}
		for _, list := range [][]int{{0, 1, 2}, {1, 0, 2}, {1, 2, 0}, {1, 2, 1}, {3, 1, 0}} {
			stays(t, "place 16; num 4; num 3; num 1; "+written(made(name, bounds[name], list...)))
		}
	}
}

// bounds are constants of the operators that have them.
var bounds = map[string][2]int{"num": {2, 0}, "in": {2, 0}, "place": {2, 0}, "shlk": {2, 0}, "shrk": {2, 0}, "andk": {4, 0}, "mulk": {8, 0}, "muls": {171, 9}}

// made answers an instruction of an operator with constants, which reads the first so many of the registers.
func made(name string, by [2]int, registers ...int) api.Inst {
	n := api.Inst{Op: slices.Index(names, name), K: by[0], S: by[1]}
	for i, r := range []*int{&n.A, &n.B, &n.C}[:readsOf(name)] {
		*r = registers[i]
	}
	return n
}

// 16.1: quotients and rests

// near answers numbers from lo to hi: the ends, those about 0 and about a number's multiples, and others.
func near(lo, hi, d int, next func(int) int) []int {
	list := []int{lo, hi, lo + 1, hi - 1, 0}
	for _, about := range []int{0, d, -d, 2 * d, -2 * d, lo / d * d, hi / d * d, (lo + hi) / 2 / d * d} {
		for off := -2; off <= 2; off++ {
			list = append(list, about+off)
		}
	}
	for range 10 {
		list = append(list, lo+next(hi-lo+1))
	}
	return slices.DeleteFunc(list, func(x int) bool { return x < lo || x > hi })
}

// dividing asks that the operator of a register from lo to hi, which has the number 8, and of a number, the number 9, is written so; what is written begins with 10.
func dividing(t *testing.T, name string, lo, hi, d int, want string) {
	t.Helper()
	var on []api.Window
	for _, x := range near(lo, hi, max(d, 1), draw(9)) {
		on = append(on, at(x))
	}
	start := within(lo, hi) + fmt.Sprintf("; num %d; ", d)
	becomesFor(t, sound, start+name+" 8 9", start+want, on...)
}

func TestPowersOfTwo(t *testing.T) {
	for n := 1; n <= 30; n++ {
		d := 1 << n
		plain, rest := fmt.Sprint("shrk 8 ", n), fmt.Sprint("andk 8 ", d-1)
		for _, s := range [][2]int{{0, most}, {0, 0}, {1, 1}, {0, d - 1}, {0, d}, {d - 1, most}, {most, most}, {5, 5 + d}} {
			dividing(t, "div", s[0], s[1], d, plain)
			dividing(t, "mod", s[0], s[1], d, rest)
		}
		signed := fmt.Sprintf("shrk 8 31; andk 10 %d; add 8 11; shrk 12 %d", d-1, n)
		for _, s := range [][2]int{{-1, -1}, {-1, 0}, {-1, most - d + 1}, {least, most - d + 1}, {least, least}, {least, -1}, {-d, d - 1}, {-5, 5}, {least, 0}, {-3, -2}} {
			dividing(t, "div", s[0], s[1], d, signed)
		}
		again := signed + fmt.Sprintf("; shlk 13 %d; sub 8 14", n)
		for _, s := range [][2]int{{-1, -1}, {-1, 0}, {-5, 5}, {-3, -2}, {-1, most - 2*d + 1}} {
			dividing(t, "mod", s[0], s[1], d, again)
		}
	}
}

// The edge of a.Hi + d - 1: one above, and the division stays, but all the same what stands beside it is written anew.
func TestNoRoom(t *testing.T) {
	for n := 1; n <= 30; n++ {
		d := 1 << n
		for _, lo := range []int{-1, -2, -d, least} {
			for _, hi := range []int{most - d + 2, most - d/2 + 1, most} {
				for _, name := range []string{"div", "mod"} {
					dividing(t, name, lo, hi, d, name+" 8 9")
					start := within(lo, hi) + fmt.Sprintf("; num %d; %s 8 9; num 3; ", d, name)
					becomesFor(t, sound, start+"mul 2 11", start+"mulk 2 3")
				}
			}
		}
		// At the edge itself the quotient is written.
		start := within(-1, most-d+1) + fmt.Sprintf("; num %d; ", d)
		becomesFor(t, sound, start+"div 8 9; num 3; mul 2 11", start+fmt.Sprintf("shrk 8 31; andk 10 %d; add 8 11; shrk 12 %d; num 3; mulk 2 3", d-1, n))
		// The rest is too, but that code isn't taken: so all of it stays.
		becomesFor(t, sound, start+"mod 8 9; num 3; mul 2 11", start+"mod 8 9; num 3; mul 2 11")
		start = within(-1, most-d) + fmt.Sprintf("; num %d; ", d)
		becomesFor(t, sound, start+"mod 8 9; num 3; mul 2 11", start+fmt.Sprintf("shrk 8 31; andk 10 %d; add 8 11; shrk 12 %d; shlk 13 %d; sub 8 14; num 3; mulk 2 3", d-1, n, n))
	}
}

// Products and shifts in the place of divisions, written by hand.
func TestOtherDivisors(t *testing.T) {
	for _, row := range []struct{ lo, hi, d, k, s int }{
		{0, 255, 3, 171, 9}, {0, 128, 3, 171, 9}, {0, 127, 3, 43, 7}, {0, 0, 7, 1, 0}, {0, 1, 3, 1, 1}, {0, 2, 5, 1, 2}, {5, 5, 10, 7, 6}, {0, 255, 10, 205, 11}, {0, 65535, 3, 43691, 17}, {0, most, 3, 715827883, 31}, {0, 255, most, 257, 39}, {0, most, most, 1073741825, 61},
	} {
		plain := fmt.Sprintf("muls 8 %d %d", row.k, row.s)
		dividing(t, "div", row.lo, row.hi, row.d, plain)
		dividing(t, "mod", row.lo, row.hi, row.d, plain+fmt.Sprintf("; mulk 10 %d; sub 8 11", row.d))
	}
	for _, row := range []struct{ lo, hi, d, k, s int }{
		{-128, 127, 3, 171, 9}, {-1, 255, 3, 171, 9}, {-255, 0, 3, 171, 9}, {-255, -1, 3, 171, 9}, {-255, -255, 3, 171, 9}, {-1, 1, 3, 1, 1}, {-2, 1, 5, 1, 2}, {-1, 2, 5, 1, 2}, {-32768, 32767, 3, 43691, 17}, {-255, 255, most, 257, 39},
	} {
		signed := fmt.Sprintf("muls 8 %d %d; shrk 8 31; sub 10 11", row.k, row.s)
		dividing(t, "div", row.lo, row.hi, row.d, signed)
		if row.d < most {
			dividing(t, "mod", row.lo, row.hi, row.d, signed+fmt.Sprintf("; mulk 12 %d; sub 8 13", row.d))
		}
	}
}

// Numbers that do not divide quickly: 1, numbers below 0, and those for which Magic is false.
func TestSlowDivisors(t *testing.T) {
	spans := [][2]int{{0, 0}, {0, 255}, {-128, 127}, {-5, -1}, {0, most}, {least + 1, most}}
	for _, s := range spans {
		for _, d := range []int{1, -1, -2, -3, -4, -10, -1 << 30, -most, least} {
			dividing(t, "div", s[0], s[1], d, "div 8 9")
			dividing(t, "mod", s[0], s[1], d, "mod 8 9")
		}
	}
	slow := 0
	for d := 3; d < 400; d++ {
		for _, s := range [][2]int{{least, most}, {least, 0}, {0, most}, {-most, most}, {0, most / 2}, {-1, 1 << 29}} {
			if _, _, ok := modelMagic(max(-s[0], s[1]), d); ok || modelPower(d) > 0 {
				continue
			}
			slow++
			dividing(t, "div", s[0], s[1], d, "div 8 9")
			dividing(t, "mod", s[0], s[1], d, "mod 8 9")
			// What stands beside it is written anew.
			start := within(s[0], s[1]) + fmt.Sprintf("; num %d; div 8 9; mod 8 9; ", d)
			becomesFor(t, sound, start+"and 8 9", start+fmt.Sprint("andk 8 ", d))
		}
	}
	if slow < 300 {
		t.Errorf("%d are slow", slow)
	}
}

// The span's greatest size counts, whichever end it is.
func TestGreatestSize(t *testing.T) {
	// Of the size 127 and less 43, 7 is enough, of 128 it isn't.
	magic(t, 127, 3, 43, 7)
	magic(t, 128, 3, 171, 9)
	for _, row := range []struct{ lo, hi, k, s int }{{-127, 127, 43, 7}, {-127, 5, 43, 7}, {-5, 127, 43, 7}, {-129, 5, 171, 9}, {-5, 129, 171, 9}, {-129, -129, 171, 9}, {-129, 128, 171, 9}, {-1, 200, 171, 9}} {
		dividing(t, "div", row.lo, row.hi, 3, fmt.Sprintf("muls 8 %d %d; shrk 8 31; sub 10 11", row.k, row.s))
	}
	// The least number has the size 2^31.
	dividing(t, "div", least, 0, 5, "muls 8 1717986919 33; shrk 8 31; sub 10 11")
	dividing(t, "div", least, least, 5, "muls 8 1717986919 33; shrk 8 31; sub 10 11")
	dividing(t, "div", least, 0, 3, "div 8 9")
	dividing(t, "div", least+1, most, 3, "muls 8 715827883 31; shrk 8 31; sub 10 11")
}

func TestManyDivisions(t *testing.T) {
	next := draw(31)
	lines := used{}
	ends := []int{least, least + 1, -1 << 30, -65536, -1000, -128, -2, -1, 0, 1, 2, 127, 255, 1000, 65535, 1 << 30, most - 1, most}
	for range 6000 {
		pick := func() int {
			if next(2) == 0 {
				return ends[next(len(ends))]
			}
			return (least + next(1<<32)) >> next(31)
		}
		lo, hi := pick(), pick()
		lo, hi = min(lo, hi), max(lo, hi)
		d := []int{pick(), pick(), 1 + next(30), 1 << next(31), most>>next(20) - next(2)}[next(5)]
		if d == 0 {
			continue
		}
		name := []string{"div", "mod"}[next(2)]
		c := codedFor(sound, within(lo, hi)+fmt.Sprintf("; num %d; %s 8 9", d, name))
		var on []api.Window
		for _, x := range near(lo, hi, max(d, 1), next) {
			on = append(on, at(x))
		}
		if _, e := modelled(t, c, lines, on...); e != api.OK && !(lo == least && d == -1) {
			t.Errorf("%s: %d", shown(c), e)
		}
	}
	for _, name := range []string{"div shift", "div shift with a sign", "div no room", "div product", "div product with a sign", "div no magic", "mod mask", "mod shift with a sign", "mod no room", "mod product", "mod product with a sign", "mod no magic", "refused 13"} {
		if lines[name] < 10 {
			t.Errorf("the line %q was used %d times", name, lines[name])
		}
	}
}

// 16.1: the code as it was

// asItWas asks that the new code would be refused by this error, and that the code stays as it was, with all that stands beside it.
func asItWas(t *testing.T, k api.Kind, text string, want api.Errno) {
	t.Helper()
	count := len(codedFor(k, text).Insts)
	for _, more := range []string{"", "; out 0", "; out 2", fmt.Sprintf("; num 4; mul 0 %d", count), fmt.Sprintf("; num 10; and %d 0; out 2", count)} {
		c := codedFor(k, text+more)
		report, e := verify.Verify(c)
		if e != api.OK {
			t.Fatalf("%s: %d", shown(c), e)
		}
		d, _ := rewritten(c, report.Spans, used{})
		if _, e := verify.Verify(d); e != want {
			t.Errorf("%s would become %s: %d, not %d", shown(c), shown(d), e, want)
		}
		becomesFor(t, k, text+more, text+more)
	}
	// A line of the table that would be good alone isn't used either.
	for _, more := range []string{"place 15; num 8; mul 0 1; ", "num 8; place 15; and 0 1; "} {
		moved := codedFor(k, text)
		for i, n := range moved.Insts {
			moved.Insts[i] = fold.Through(n, []int{3, 4, 5, 6, 7, 8, 9, 10, 11, 12, 13, 14, 15, 16, 17, 18})
		}
		moved.Insts = slices.Concat(codedFor(k, more+"num 0").Insts[:3], moved.Insts)
		moved.Out += 3
		d, e := modelled(t, moved, used{})
		if e != api.OK || !code.Same(d, moved) {
			t.Errorf("Reduce(%s) = %s, %d", shown(moved), shown(d), e)
		}
	}
}

func TestAsItWas(t *testing.T) {
	// The quotient's span becomes wider by one at an end.
	asItWas(t, small, "place 15; num 4; div 0 1; num 32; sub 3 2; num 1; div 5 4", api.ErrDivZero)
	asItWas(t, small, "place 15; num 3; div 0 1; num 43; add 2 3; num 1; div 5 4", api.ErrDivZero)
	asItWas(t, small, "place 15; num 3; div 0 1; num 43; sub 3 2; num 1; mod 5 4", api.ErrDivZero)
	asItWas(t, small, "place 15; num 64; div 0 1; num 30; add 2 3; num 1; shr 5 4", api.ErrOverflow)
	// The rest's span becomes much wider.
	asItWas(t, small, "place 15; num 8; mod 0 1; num 8; add 2 3; num 1; shl 5 4", api.ErrOverflow)
	asItWas(t, small, "place 15; num 3; mod 0 1; num 3; add 2 3; num 1; div 5 4", api.ErrDivZero)
	asItWas(t, image, "place 15; num 10; mod 0 1; num 1; shl 3 2", api.ErrOverflow)
	asItWas(t, image, "place 15; num 10; mod 0 1; num 10; sub 2 3; num 1; div 5 4", api.ErrDivZero)
	asItWas(t, image, "place 15; num 10; mod 0 1; shlk 2 24", api.ErrOverflow)
	// The rest itself leaves 32 bits on its way.
	for _, s := range [][2]int{{least, 0}, {least, 5}, {least, 1 << 30}, {-1 << 30, 1 << 30}} {
		text := within(s[0], s[1]) + "; num 5; mod 8 9"
		report, e := verify.Verify(codedFor(sound, text))
		d, _ := rewritten(codedFor(sound, text), report.Spans, used{})
		if _, f := verify.Verify(d); e != api.OK || f != api.ErrOverflow {
			t.Errorf("%s: %d, and %s: %d", text, e, shown(d), f)
		}
		becomesFor(t, sound, text, text)
		becomesFor(t, sound, text+"; num 4; mul 0 11", text+"; num 4; mul 0 11")
	}
	// The sign of what is below 0 altogether is known, so that the rest is taken.
	dividing(t, "mod", least, least, 5, "muls 8 1717986919 33; shrk 8 31; sub 10 11; mulk 12 5; sub 8 13")
}

// A mask of a power of two isn't wider than the rest: those codes are written anew.
func TestMaskIsNoWider(t *testing.T) {
	becomes(t, "place 16; num 16; mod 0 1; num 1; shl 3 2", "place 16; num 16; andk 0 15; num 1; shl 3 2")
	becomes(t, "place 16; num 8; mod 0 1; shlk 2 28", "place 16; num 8; andk 0 7; shlk 2 28")
	becomes(t, "place 16; num 8; mod 0 1; num 8; sub 2 3; num 1; div 5 4", "place 16; num 8; andk 0 7; num 8; sub 2 3; num 1; div 5 4")
	becomes(t, "place 16; num 3; div 0 1; num 86; sub 2 3; num 1; div 5 4", "place 16; num 3; muls 0 171 9; num 86; sub 2 3; num 1; div 5 4")
}

// 16.1: registers behind what is written

func TestRegistersBehind(t *testing.T) {
	becomesFor(t, small, "place 15; num 4; div 0 1; add 2 0; sub 0 2; neg 3", "place 15; num 4; shrk 0 31; andk 2 3; add 0 3; shrk 4 2; add 5 0; sub 0 5; neg 6")
	becomesFor(t, small, "place 15; num 3; div 0 1; place 14; div 3 1; med 2 4 0; sel 4 3 2; clamp 1 2 4", "place 15; num 3; muls 0 171 9; shrk 0 31; sub 2 3; place 14; muls 5 171 9; shrk 5 31; sub 6 7; med 4 8 0; sel 8 5 4; clamp 1 4 8")
	becomesFor(t, small, "place 15; num 4; mod 0 1; place 14; num 3; mod 3 4; sub 2 5; shlk 6 2; muls 6 5 1", "place 15; num 4; shrk 0 31; andk 2 3; add 0 3; shrk 4 2; shlk 5 2; sub 0 6; place 14; num 3; muls 8 171 9; shrk 8 31; sub 10 11; mulk 12 3; sub 8 13; sub 7 14; shlk 15 2; muls 15 5 1")
	becomes(t, "place 16; num 3; mod 0 1; mod 2 1; div 3 1; add 4 4", "place 16; num 3; muls 0 171 9; mulk 2 3; sub 0 3; muls 4 3 3; mulk 5 3; sub 4 6; muls 7 3 3; add 8 8")
	// The number is read by its new register, where it is read at all.
	becomesFor(t, small, "place 15; num 3; div 0 1; num 5; div 2 3; add 3 1; mul 3 1", "place 15; num 3; muls 0 171 9; shrk 0 31; sub 2 3; num 5; muls 4 13 6; shrk 4 31; sub 6 7; add 5 1; mulk 5 3")
	becomesFor(t, small, "place 15; num 3; div 0 1; num -5; div 2 3; and 2 3; and 3 2; num -7; and 3 7", "place 15; num 3; muls 0 171 9; shrk 0 31; sub 2 3; num -5; div 4 5; and 4 5; and 5 4; num -7; and 5 9")
	becomesFor(t, small, "place 15; num 3; div 0 1; num 2; mul 2 3; mul 3 2; and 2 3; and 3 2; shl 2 3; shr 2 3", "place 15; num 3; muls 0 171 9; shrk 0 31; sub 2 3; num 2; shlk 4 1; shlk 4 1; andk 4 2; andk 4 2; shlk 4 2; shrk 4 2")
}

func TestOut(t *testing.T) {
	was := "place 15; num 4; div 0 1; num 3; div 0 3; mod 0 1; mod 0 3; mul 2 3; neg 4"
	is := "place 15; num 4; shrk 0 31; andk 2 3; add 0 3; shrk 4 2; num 3; muls 0 171 9; shrk 0 31; sub 7 8; " +
		"shrk 0 31; andk 10 3; add 0 11; shrk 12 2; shlk 13 2; sub 0 14; muls 0 171 9; shrk 0 31; sub 16 17; mulk 18 3; sub 0 19; mulk 5 3; neg 9"
	for out, to := range []int{0, 1, 5, 6, 9, 15, 20, 21, 22} {
		becomesFor(t, small, fmt.Sprint(was, "; out ", out), fmt.Sprint(is, "; out ", to))
	}
	becomes(t, "num 1; num 3; div 0 1; out 0", "num 1; num 3; muls 0 1 1; out 0")
	becomes(t, "place 16; num 3; mod 0 1; num 9; out 2", "place 16; num 3; muls 0 171 9; mulk 2 3; sub 0 3; num 9; out 4")
	becomes(t, "place 16; num 3; mod 0 1; num 9; out 3", "place 16; num 3; muls 0 171 9; mulk 2 3; sub 0 3; num 9; out 5")
}

// The spans that are asked are those of the code as it was, though those of the new one are wider.
func TestSpansOfTheOldCode(t *testing.T) {
	// Of x/3 + 42 none is below 0; the new code's span begins with -1.
	becomesFor(t, small, "place 15; num 3; div 0 1; num 42; add 2 3; num 4; div 4 5; mod 4 5", "place 15; num 3; muls 0 171 9; shrk 0 31; sub 2 3; num 42; add 4 5; num 4; shrk 6 2; andk 6 3")
	becomesFor(t, small, "place 15; num 3; div 0 1; num 42; add 2 3; num 5; div 4 5", "place 15; num 3; muls 0 171 9; shrk 0 31; sub 2 3; num 42; add 4 5; num 5; muls 6 103 9")
	// x%3 is -2 to 2, also where it is reckoned by a difference of -254 to 256.
	becomesFor(t, small, "place 15; num 3; mod 0 1; num 5; div 2 3", "place 15; num 3; muls 0 171 9; shrk 0 31; sub 2 3; mulk 4 3; sub 0 5; num 5; muls 6 1 2; shrk 6 31; sub 8 9")
}

// What is a number is asked of the code as it was: nothing is reckoned ahead.
func TestNumbersOfTheOldCode(t *testing.T) {
	becomes(t, "num 2; num 3; mul 0 1; place 16; mul 3 2; and 3 2; shl 3 2", "num 2; num 3; mulk 0 3; place 16; mul 3 2; and 3 2; shl 3 2")
	becomes(t, "num 8; num 1; shr 0 1; place 16; div 3 2; mod 3 2", "num 8; num 1; shrk 0 1; place 16; div 3 2; mod 3 2")
}

// 16.2

func TestPower(t *testing.T) {
	for n := range 31 {
		k := 1 << n
		for x, want := range map[int]int{k: n, -k: -1, k + 3<<32: -1, k + 1<<32: -1, k + 1<<62: -1} {
			if got := reduce.Power(x); got != want {
				t.Errorf("Power(%d) = %d, not %d", x, got, want)
			}
		}
		if n > 1 && (reduce.Power(k-1) != -1 || reduce.Power(k+1) != -1) {
			t.Errorf("Power beside 2^%d is %d and %d", n, reduce.Power(k-1), reduce.Power(k+1))
		}
	}
	for n := 31; n < 63; n++ {
		for _, k := range []int{1<<n - 1, 1 << n, 1<<n + 1, -1 << n} {
			if got := reduce.Power(k); got != -1 {
				t.Errorf("Power(%d) = %d", k, got)
			}
		}
	}
	for k := -70000; k <= 70000; k++ {
		if got := reduce.Power(k); got != modelPower(k) {
			t.Errorf("Power(%d) = %d", k, got)
		}
	}
	for _, k := range append([]int{0, -1, most, least}, far...) {
		if got := reduce.Power(k); got != -1 {
			t.Errorf("Power(%d) = %d", k, got)
		}
	}
	if reduce.Power(1) != 0 || reduce.Power(2) != 1 || reduce.Power(3) != -1 || reduce.Power(1<<30) != 30 {
		t.Error("Power of 1, 2, 3 or 2^30")
	}
}

// 16.3

// magic asks for what Magic answers.
func magic(t *testing.T, size, divisor, k, s int) {
	t.Helper()
	if x, y, ok := reduce.Magic(size, divisor); x != k || y != s || !ok {
		t.Errorf("Magic(%d, %d) = %d, %d, %v, not %d, %d", size, divisor, x, y, ok, k, s)
	}
}

// noMagic asks for 0, 0 and false.
func noMagic(t *testing.T, size, divisor int) {
	t.Helper()
	if k, s, ok := reduce.Magic(size, divisor); k != 0 || s != 0 || ok {
		t.Errorf("Magic(%d, %d) = %d, %d, %v", size, divisor, k, s, ok)
	}
}

func TestMagicByHand(t *testing.T) {
	for _, d := range []int{2, 3, 7, 1000, most - 1, most} {
		magic(t, 0, d, 1, 0)
	}
	magic(t, 1, 2, 3, 2)
	magic(t, 1, 3, 1, 1)
	magic(t, 2, 3, 3, 3)
	magic(t, 1, 4, 3, 3)
	magic(t, 2, 2, 5, 3)
	magic(t, 2, 5, 1, 2)
	magic(t, 5, 10, 7, 6)
	magic(t, 127, 3, 43, 7)
	magic(t, 128, 3, 171, 9)
	magic(t, 255, 10, 205, 11)
	magic(t, 255, most, 257, 39)
	magic(t, most, 3, 715827883, 31)
	magic(t, 1<<31, 5, 1717986919, 33)
	magic(t, 65535, 3, 43691, 17)
	magic(t, most, most, 1<<30+1, 61)
	magic(t, 1<<31, most, 1<<30+1, 61)
	// The divisor and the size that may not be.
	for _, size := range []int{0, 1, 255, 1 << 31} {
		for _, d := range append([]int{1, 0, -1, -2, -3, least, most + 1, most + 2}, far...) {
			noMagic(t, size, d)
		}
	}
	for _, d := range []int{2, 3, most} {
		for _, size := range append([]int{-1, -2, -255, least, 1<<31 + 1, 1<<31 + 2}, far...) {
			noMagic(t, size, d)
		}
	}
	for _, size := range far {
		for _, d := range far {
			noMagic(t, size, d)
		}
	}
	// k size is above 2^62 ahead of the first s that would do, or just there: of 57 that is the s 37 with 2411209711.
	noMagic(t, 1<<31, 3)
	noMagic(t, 1<<31, 57)
	noMagic(t, 2147143023, 56)
	noMagic(t, 2115065333, 816)
	noMagic(t, 1<<31, 205021909)
	noMagic(t, 2147483647, 25101188)
}

// sizes are those at which Magic is asked, divisors too.
func sizes(next func(int) int) []int {
	list := []int{1<<31 - 2, 1 << 31}
	for x := range 70 {
		list = append(list, x)
	}
	for n := 6; n <= 30; n++ {
		list = append(list, 1<<n-1, 1<<n, 1<<n+1)
	}
	for range 60 {
		list = append(list, next(1<<31)>>next(31), 1<<31-next(1<<31)>>next(31))
	}
	return list
}

func TestMagicAgainstTheWords(t *testing.T) {
	next := draw(63)
	got := map[bool]int{}
	edge := 0
	for _, size := range sizes(next) {
		for _, d := range append(sizes(next), most, most-1) {
			k, s, ok := reduce.Magic(size, d)
			x, y, want := modelMagic(size, d)
			if k != x || s != y || ok != want {
				t.Errorf("Magic(%d, %d) = %d, %d, %v, not %d, %d, %v", size, d, k, s, ok, x, y, want)
			}
			got[ok]++
			if !ok && d > 1 && size < 1<<31 {
				edge++
			}
			if ok {
				quotientsHold(t, size, d, k, s, next)
			}
		}
	}
	if got[true] < 20000 || got[false] < 500 || edge < 100 {
		t.Errorf("true or false: %v, and false below the size 2^31: %d", got, edge)
	}
}

// 16.4: quotients

// quotientsHold asks what the chapter says of numbers of this size, the ends among them.
func quotientsHold(t *testing.T, size, d, k, s int, next func(int) int) {
	t.Helper()
	for _, x := range near(-size, size, d, next) {
		if got := rounded(x, k, s); got != x/d {
			t.Errorf("Magic(%d, %d) = %d, %d: %d divided is %d, not %d", size, d, k, s, x, got, x/d)
		}
	}
}

// rounded answers x k divided by 2^s, rounded down, and 1 more, if x is below 0.
func rounded(x, k, s int) int {
	q := x * k >> s
	if x < 0 {
		q++
	}
	return q
}

func TestAllQuotients(t *testing.T) {
	for size := range 140 {
		for d := 2; d <= 150; d++ {
			k, s, ok := reduce.Magic(size, d)
			if !ok {
				t.Fatalf("Magic(%d, %d) is false", size, d)
			}
			for x := -size; x <= size; x++ {
				if rounded(x, k, s) != x/d {
					t.Errorf("Magic(%d, %d) = %d, %d: %d divided is %d", size, d, k, s, x, rounded(x, k, s))
				}
			}
		}
	}
	for _, d := range []int{3, 7, 10, 255, 256, 641, 65535} {
		k, s, ok := reduce.Magic(65536, d)
		for x := -65536; ok && x <= 65536; x++ {
			if rounded(x, k, s) != x/d {
				t.Fatalf("Magic(65536, %d) = %d, %d: %d divided is %d", d, k, s, x, rounded(x, k, s))
			}
		}
	}
}

// 16.4: a pass

const median = "med(p(-1,0),p(0,-1),p(-1,0)+p(0,-1)-p(-1,-1))"

// programs are ordinary ones, of images, of sounds and of both.
var programs = []string{
	"1", "x", "y", "c", "lo", "hi", "mid", "p(-1,0)", "q(1,-1)", "p(-16)", "p(-1,0)+1", "(p(-1,0)+p(0,-1))/2", median, "p(-1,0)/3", "p(-1)/3", "p(-1)%10", "p(-1,0)%10", "p(-1,0)%16*3", "p(-1)%16*3", "8*p(-1,0)/10", "8*p(-1)/10",
	"1/(abs(p(-1,0)-p(0,-1))+1)", "(x&255)*(x&255)", "255&x", "2*p(-1)-p(-2)", "clamp(2*p(-1)-p(-2),lo,hi)", "let a=hi;a*a", "x?1:y?2:3", "(p(-1,0)*3+p(0,-1)*3-p(-1,-1)*2)/4", "(p(-1)*3-p(-2)*3+p(-3)+2)/4%256",
	"abs(p(-1,0)-p(0,-1))<2?0:abs(p(-1,0)-p(0,-1))<8?1:abs(p(-1,0)-p(0,-1))<32?2:3", "-x", "sgn(-x)<<3>>1", "1<<2<3|4&5^6", "let a=1;let b=a;let c2=a+b;(c2%3==0)!=(a>b)", "let unused=q(3,-4);2147483647",
	"(p(-1)-p(-2))/3+(p(-1)-p(-2))%5*(p(-1)-p(-2)>>1)-(p(-1)-p(-2)<<2)&7", "hi-lo+1-(hi-lo+1)", "1<<x%8", "1<<(p(-1)%8&7)", "1<<p(-1)%3+2", "1/(p(-1)%3+3)", "x/10%10", "x%100/10", "(x/3+y/5)%7", "x/1000000007", "p(-1)/2147483647", "p(-1)/-3", "p(-1)%-4", "p(-1)/1%1", "-7*p(-1)/7",
	"0" + strings.Repeat("+1%2", 22), strings.Repeat("-", 23) + "1", "1" + strings.Repeat("%7", 28), "1" + strings.Repeat("/7", 39), "p(-1)" + strings.Repeat("/2", 22), "x" + strings.Repeat("%4096", 22),
}

func TestPrograms(t *testing.T) {
	taken, changed, lines := 0, 0, used{}
	kinds(func(k api.Kind) {
		for _, text := range programs {
			tree, e := parse.Parse(text)
			if e != api.OK {
				t.Fatalf("Parse(%q): %d", text, e)
			}
			c, e := lower.Lower(k, tree)
			if e != api.OK {
				continue
			}
			d, e := modelled(t, c, lines)
			if e != api.OK {
				t.Errorf("%q for %v: %d", text, k, e)
			}
			if taken++; !code.Same(c, d) {
				changed++
			}
			// What was folded and shared is reduced too, and what was reduced is folded, shared and reduced again.
			for _, each := range []api.Code{c, d} {
				folded, e := fold.Fold(each)
				shared, f := share.Share(folded)
				if e != api.OK || f != api.OK {
					t.Errorf("%q for %v: %d, %d", text, k, e, f)
				}
				modelled(t, folded, lines)
				modelled(t, shared, lines)
				modelled(t, each, lines)
			}
		}
	})
	if taken < 1000 || changed < 500 {
		t.Errorf("%d programs are taken, %d are changed", taken, changed)
	}
	if lines["refused 12"] == 0 || lines["refused 13"] == 0 {
		t.Errorf("the lines used are %v", lines)
	}
}

// sketch answers a code of a kind that may be, which has much to reduce; places are below a number. Of a hundred instructions that would be refused so many are kept.
func sketch(next func(int) int, k api.Kind, count, places, kept int) api.Code {
	c := api.Code{Kind: k}
	for i := 0; i < count && code.Cost(c) < 194; i++ {
		c.Insts = append(c.Insts, drawn(next, c.Insts, places))
		if _, e := verify.Verify(c); e != api.OK && next(100) >= kept {
			c.Insts[i] = api.Inst{Op: api.OpNum, K: numberAtRandom(next)}
		}
	}
	c.Out = next(len(c.Insts))
	if next(2) == 0 {
		c.Out = len(c.Insts) - 1
	}
	return c
}

// numberAtRandom answers a number of 32 bits, more often a small one or one beside a power of two.
func numberAtRandom(next func(int) int) int {
	switch next(6) {
	case 0:
		return next(12) - 2
	case 1:
		return 1 << next(31)
	case 2:
		return 1<<next(31) + next(3) - 1
	case 3:
		return -1 << next(32)
	case 4:
		return next(32)
	}
	return (least + next(1<<32)) >> next(32)
}

// drawn answers an instruction behind others; those of the table read a number that stands ahead, if there is one.
func drawn(next func(int) int, list []api.Inst, places int) api.Inst {
	i := len(list)
	name := all[next(len(all))]
	if next(2) == 0 {
		name = []string{"mul", "and", "shl", "shr", "div", "mod", "div", "mod"}[next(8)]
	}
	if i == 0 || next(4) == 0 {
		name = []string{"num", "num", "in", "place", "place"}[next(5)]
	}
	n := api.Inst{Op: slices.Index(names, name)}
	for _, r := range []*int{&n.A, &n.B, &n.C}[:readsOf(name)] {
		if *r = next(i); next(2) == 0 {
			*r = i - 1 - next(min(i, 4))
		}
	}
	if readsOf(name) == 2 && next(3) > 0 {
		n.B = numbered(next, list, n.B)
	}
	if readsOf(name) == 2 && next(4) == 0 {
		n.A, n.B = n.B, n.A
	}
	switch name {
	case "num":
		n.K = numberAtRandom(next)
	case "in":
		n.K = next(6)
	case "place":
		n.K = next(places)
	case "shlk", "shrk", "mulk", "andk", "muls":
		n.K, n.S = bounds[name][0], bounds[name][1]
	}
	return n
}

// numbered answers the register of a number among those ahead, or the one that it is given.
func numbered(next func(int) int, list []api.Inst, r int) int {
	for range 8 {
		if i := next(len(list)); list[i].Op == api.OpNum {
			return i
		}
	}
	return r
}

func TestCodesAtRandom(t *testing.T) {
	next := draw(16)
	got := map[api.Errno]int{}
	lines := used{}
	changed, longer, stayed := 0, 0, 0
	for i := range 12000 {
		k := api.Kind{Form: next(2), Depth: 1 + next(16)}
		limit := kind.Count(k)
		if next(10) == 0 {
			limit = 60
		}
		count, kept := 1+next(18), 25
		if i%60 == 0 {
			count, kept = 60+next(141), 0
		}
		c := sketch(next, k, count, limit, kept)
		d, e := modelled(t, c, lines)
		if got[e]++; e != api.OK {
			continue
		}
		if code.Same(c, d) {
			stayed++
		} else {
			changed++
		}
		if len(d.Insts) > len(c.Insts) {
			longer++
		}
	}
	for e, least := range map[api.Errno]int{api.OK: 3000, api.ErrAhead: 20, api.ErrDivZero: 100, api.ErrOverflow: 100} {
		if got[e] < least {
			t.Errorf("the answer %d came %d times", e, got[e])
		}
	}
	if changed < 1500 || stayed < 500 || longer < 500 {
		t.Errorf("%d codes are changed, %d stay, %d become longer", changed, stayed, longer)
	}
	for _, name := range []string{"mul A", "mul B", "and A", "and B", "shl", "shr", "div shift", "div shift with a sign", "div product", "div product with a sign", "mod mask", "mod shift with a sign", "mod product", "mod product with a sign", "refused 13"} {
		if lines[name] < 20 {
			t.Errorf("the line %q was used %d times", name, lines[name])
		}
	}
}

// On every window of three places and a plane, of the least depths.
func TestAllWindows(t *testing.T) {
	next := draw(3)
	for _, k := range []api.Kind{{Form: api.Image, Depth: 1}, {Form: api.Sound, Depth: 1}, {Form: api.Image, Depth: 2}, {Form: api.Sound, Depth: 2}} {
		low, size := kind.Low(k), kind.High(k)-kind.Low(k)+1
		changed := 0
		for range 200 {
			c := sketch(next, k, 4+next(14), 3, 0)
			d, e := modelled(t, c, used{})
			if e != api.OK {
				t.Errorf("%s: %d", shown(c), e)
				continue
			}
			if !code.Same(c, d) {
				changed++
			}
			_, to, _ := model(c, used{})
			w := windowOf(k, uint(next(20)))
			for i := range size * size * size * 4 {
				w.P[0], w.P[1], w.P[2], w.C = low+i%size, low+i/size%size, low+i/size/size%size, i/size/size/size
				answersAlike(t, c, d, to, w)
			}
		}
		if changed < 50 {
			t.Errorf("%d codes of %v are changed", changed, k)
		}
	}
}

// Of every sample of 8 bits, divided by every number up to some hundred.
func TestAllSamples(t *testing.T) {
	for _, k := range []api.Kind{image, small} {
		for d := 1; d <= 300; d++ {
			text := fmt.Sprintf("place 3; num %d; div 0 1; mod 0 1; mul 2 1; add 4 3", d)
			var on []api.Window
			for x := kind.Low(k); x <= kind.High(k); x++ {
				w := windowOf(k, 0)
				w.P[3] = x
				on = append(on, w)
			}
			c := codedFor(k, text)
			got, e := modelled(t, c, used{}, on...)
			if e != api.OK || d > 1 && code.Same(c, got) {
				t.Errorf("Reduce(%s) = %s, %d", shown(c), shown(got), e)
			}
			for _, w := range on {
				if list, e := code.Values(got, w); e != api.OK || list[got.Out] != w.P[3] {
					t.Errorf("%s comes to %v, %d", shown(got), list, e)
				}
			}
		}
	}
}

func TestOneThingChanged(t *testing.T) {
	next := draw(5)
	got := map[api.Errno]int{}
	for range 100 {
		k := api.Kind{Form: next(2), Depth: 1 + next(16)}
		c := sketch(next, k, 1+next(16), kind.Count(k), 0)
		fields := []*int{&c.Out, &c.Kind.Form, &c.Kind.Depth}
		for i := range c.Insts {
			n := &c.Insts[i]
			fields = append(fields, &n.Op, &n.A, &n.B, &n.C, &n.K, &n.S)
		}
		for _, field := range fields {
			old := *field
			for _, to := range append([]int{old - 1, old + 1, -1, 0, 1, 2, 5, 6, 30, 31, 32, 43, 44, 62, 63, 255, 256, len(c.Insts) - 1, len(c.Insts)}, far...) {
				*field = to
				_, e := modelled(t, c, used{})
				got[e]++
			}
			*field = old
		}
	}
	for e, least := range map[api.Errno]int{api.OK: 1000, api.ErrCode: 5000, api.ErrAhead: 20, api.ErrDivZero: 20, api.ErrOverflow: 50} {
		if got[e] < least {
			t.Errorf("the answer %d came %d times", e, got[e])
		}
	}
}

// P1

// Codes and numbers of any kind: whatever they are, there is an answer.
func TestWild(t *testing.T) {
	next := draw(7)
	number := func() int {
		switch next(4) {
		case 0, 1:
			return 0
		case 2:
			return next(8) - 1
		}
		return append([]int{least, most, 1 << 31, 1 << 62, 255, 256}, far...)[next(6+len(far))]
	}
	for range 30000 {
		c := api.Code{Kind: api.Kind{Form: next(3), Depth: next(18)}, Out: number()}
		for range next(6) {
			c.Insts = append(c.Insts, api.Inst{Op: next(40) - 2, A: number(), B: number(), C: number(), K: number(), S: number()})
		}
		modelled(t, c, used{})
		size, d := number(), number()
		k, s, ok := reduce.Magic(size, d)
		if x, y, want := modelMagic(size, d); k != x || s != y || ok != want {
			t.Errorf("Magic(%d, %d) = %d, %d, %v", size, d, k, s, ok)
		}
		if reduce.Power(d) != modelPower(d) {
			t.Errorf("Power(%d) = %d", d, reduce.Power(d))
		}
	}
	refused(t, api.Code{Kind: image, Insts: slices.Repeat([]api.Inst{{Op: api.OpNum}}, 1<<20)}, api.ErrCode)
}

// examples are codes that are taken: such as stay as they were, one of them because its new code is refused, and such as don't.
var examples = []string{
	"num 1", "place 16; neg 0", "place 16; place 10; add 0 1; shrk 2 1", "place 1; place 2; place 3; med 0 1 2", "place 15; num 10; mod 0 1; shlk 2 24",
	"num 2; num 3; mul 1 0", "in hi; num 7; div 0 1; mod 0 1; out 2", "place 16; neg 0; num 4; div 1 2; mod 1 2; and 3 2; out 3", "place 16; neg 0; num 3; div 1 2; mod 1 2; shl 4 2", quotients(49), strings.TrimSuffix(strings.Repeat("place 16; ", 200), "; "),
}

func TestAnswersAreNewMemory(t *testing.T) {
	var last []api.Code
	for _, text := range examples {
		c, stands := roomy(coded(text))
		one, _ := reduce.Reduce(c)
		two, _ := reduce.Reduce(c)
		kept := api.Code{Kind: two.Kind, Insts: slices.Clone(two.Insts), Out: two.Out}
		if len(kept.Insts) == 0 || !code.Same(one, two) {
			t.Errorf("%s: %s, then %s", text, shown(one), shown(two))
		}
		list := one.Insts[:cap(one.Insts)]
		for i := range list {
			list[i] = api.Inst{Op: -99, A: -98}
		}
		if !code.Same(two, kept) {
			t.Errorf("%s: two answers share memory", text)
		}
		if !stands() {
			t.Errorf("%s: an answer shares memory with the code", text)
		}
		three, e := reduce.Reduce(c)
		if e != api.OK || !code.Same(three, two) {
			t.Errorf("%s: what was written into an answer is seen: %s, %d", text, shown(three), e)
		}
		for i := range c.Insts {
			c.Insts[i] = api.Inst{Op: -1, A: -1, K: -1}
		}
		if !code.Same(three, kept) {
			t.Errorf("%s: what was written into the code is seen", text)
		}
		last = append(last, three)
	}
	// Answers to other codes are left alone too.
	for i, text := range examples {
		if want, _, _ := model(coded(text), used{}); !code.Same(last[i], want) {
			t.Errorf("%s: the answer has become %s", text, shown(last[i]))
		}
	}
}

// What a call answers hangs on its code alone: not on calls ahead of it, refused ones among them, nor on the list's room.
func TestOneCodeOneAnswer(t *testing.T) {
	next := draw(23)
	for i := range 200 {
		c := sketch(next, image, 1+next(12), 44+i%2*10, 10)
		want, f := reduce.Reduce(c)
		for range 3 {
			for _, text := range append([]string{"place 44", "num 0; div 0 0", quotients(50), "num most; add 0 0"}, examples...) {
				reduce.Reduce(coded(text))
			}
			reduce.Reduce(codedFor(sound, "place 0; num 4; mod 0 1; num 3; mod 0 3"))
			reduce.Reduce(api.Code{})
			d := c
			d.Insts = slices.Grow(slices.Clone(c.Insts), 50)
			if got, e := reduce.Reduce(d); e != f || !code.Same(got, want) {
				t.Errorf("Reduce(%s): %s, %d, not %s, %d", shown(c), shown(got), e, shown(want), f)
			}
		}
	}
}

// The tests' own windows, spans and operators are those of the layers below.
func TestTheTestsModel(t *testing.T) {
	kinds(func(k api.Kind) {
		for seed := range uint(50) {
			if w := windowOf(k, seed); kind.Fits(k, w) != api.OK {
				t.Errorf("%v: %v doesn't fit", k, w)
			}
		}
	})
	for op, name := range names {
		want := -1
		if slices.Contains(all, name) {
			want = readsOf(name)
		}
		if arith.Arity(op) != want {
			t.Errorf("%s reads %d registers", name, arith.Arity(op))
		}
	}
	if len(all) != 32 || names[api.OpMulS] != "muls" || names[api.OpAdd] != "add" || names[api.OpClamp] != "clamp" || names[api.OpPlace] != "place" {
		t.Errorf("the operators are %v", names)
	}
	for _, s := range []api.Span{{Lo: least, Hi: most}, {Lo: -3, Hi: 4}, {Lo: 7, Hi: 7}, {Lo: least, Hi: least}, {Lo: 0, Hi: most}} {
		c := codedFor(sound, within(s.Lo, s.Hi))
		report, e := verify.Verify(c)
		if e != api.OK || report.Spans[8] != s {
			t.Errorf("%s: %v, %d", shown(c), report, e)
		}
		for _, x := range near(s.Lo, s.Hi, 5, draw(1)) {
			if list, e := code.Values(c, at(x)); e != api.OK || list[8] != x {
				t.Errorf("%s at %d comes to %v, %d", shown(c), x, list, e)
			}
		}
	}
}
