package share_test

import (
	"fmt"
	"math"
	"slices"
	"strings"
	"testing"

	"damask/api"
	"damask/arith"
	"damask/code"
	"damask/fold"
	"damask/kind"
	"damask/lower"
	"damask/parse"
	"damask/share"
	"damask/verify"
)

// far are numbers far from all that may stand in a code.
var far = []int{math.MinInt, math.MinInt + 1, -1 << 62, -1 << 32, least - 1, 1 << 32, 1<<32 + 1, 1<<62 + 1, math.MaxInt - 1, math.MaxInt}

// The chapter's examples

func TestExamples(t *testing.T) {
	becomes(t, "place 16; place 10; add 0 1; add 1 0; sub 3 2", "place 16; place 10; add 0 1; add 0 1; sub 2 2")
	becomes(t, "place 16; place 16; sub 1 0; sub 0 1; out 3", "place 16; place 16; sub 0 0; sub 0 0; out 2")
}

// 15.1: errors

// quotients writes two numbers and so many divisions of the one by the other: 4 each, and 2.
func quotients(count int) string { return "num 1; num 2" + strings.Repeat("; div 0 1", count) }

func TestErrCode(t *testing.T) {
	refused(t, api.Code{}, api.ErrCode)
	refused(t, api.Code{Kind: image}, api.ErrCode)
	refused(t, api.Code{Kind: image, Insts: []api.Inst{}}, api.ErrCode)
	for _, k := range []api.Kind{{Form: 2, Depth: 8}, {Form: -1, Depth: 8}, {Form: 0, Depth: 0}, {Form: 1, Depth: 17}, {Form: 1, Depth: -1}, {Form: 1 << 32, Depth: 8}} {
		for _, text := range []string{"num 1", "num 1; num 1", "in lo", "place 0", "num 2; num 3; mul 1 0", "place 44", "num 0; div 0 0"} {
			refused(t, codedFor(k, text), api.ErrCode)
		}
	}
	for _, text := range []string{
		"neg 0", "num 1; neg 1", "num 1; neg 2; num 1", "num 1; add 0 1", "num 1; add 1 0", "num 1; sel 0 0 1", "num 1; neg -1", "use 0 0",
		"num 2147483648", "num -2147483649", "in 6", "in -1", "place 256", "place -1", "num 1; shlk 0 32", "num 1; shrk 0 -1", "num 1; andk 0 -1", "num 1; mulk 0 2147483648", "num 1; muls 0 0 0", "num 1; muls 0 1 63",
		"num 1; out 1", "num 1; num 1; out 2", "num 1; num 1; add 1 -1", "num 1; num 1; add 2 0", strings.Repeat("num 0; ", 200) + "num 0",
	} {
		refused(t, coded(text), api.ErrCode)
	}
	refused(t, api.Code{Kind: image, Insts: []api.Inst{{Op: api.OpNum}}, Out: -1}, api.ErrCode)
	for _, op := range append([]int{-1, 0, api.OpUse, api.OpMulS + 1, 1<<32 + api.OpNum}, far...) {
		refused(t, api.Code{Kind: image, Insts: []api.Inst{{Op: op}}}, api.ErrCode)
		refused(t, api.Code{Kind: image, Insts: []api.Inst{{Op: api.OpNum}, {Op: api.OpNum}, {Op: op}, {Op: op}}}, api.ErrCode)
	}
	// A field that the operator hasn't isn't 0.
	for _, n := range []api.Inst{{Op: api.OpNum, A: 1}, {Op: api.OpNum, S: 1}, {Op: api.OpIn, K: api.InLo, C: 1}, {Op: api.OpPlace, B: -1}, {Op: api.OpNeg, B: 1}, {Op: api.OpAdd, C: 1}, {Op: api.OpAdd, K: 1}, {Op: api.OpSel, S: 1}, {Op: api.OpMulK, S: 1}} {
		refused(t, api.Code{Kind: image, Insts: []api.Inst{{Op: api.OpNum}, {Op: api.OpNum}, n}}, api.ErrCode)
	}
}

func TestErrAhead(t *testing.T) {
	for _, text := range []string{"place 44", "place 255", "num 1; place 44; out 0", "place 44; place 44", "num 0; div 0 0; place 44", "place 44; num 0; mul 1 0", quotients(50) + "; place 44"} {
		refused(t, coded(text), api.ErrAhead)
	}
	refused(t, codedFor(sound, "place 31"), api.ErrAhead)
	refused(t, codedFor(sound, "place 43; sub 0 0"), api.ErrAhead)
}

// The error is that of the code as it was, whatever is never read behind the pass.
func TestErrDivZero(t *testing.T) {
	for _, text := range []string{
		"num 0; div 0 0", "num 0; mod 0 0", "num 1; in lo; div 0 1", "place 16; num 1; div 1 0", "place 16; mod 0 0", "num 1; num 0; div 0 1; out 0",
		"place 16; place 16; sub 0 1; div 0 2; div 1 2", "num 1; num 0; num 0; div 0 1; div 0 2", "num 0; div 0 0; num most; add 2 2", "num 0; mod 0 0; " + strings.Repeat("num 0; ", 198-2) + "mod 0 0",
	} {
		refused(t, coded(text), api.ErrDivZero)
	}
	refused(t, codedFor(sound, "num 1; in mid; mod 0 1"), api.ErrDivZero)
}

func TestErrOverflow(t *testing.T) {
	for _, text := range []string{
		"num most; num 1; add 1 0", "num least; neg 0", "num least; abs 0", "num 1; num 32; shl 0 1", "num 1; num -1; shr 0 1", "num 1; shlk 0 31", "num 2; muls 0 4611686018427387904 62", "num least; num -1; div 0 1",
		"place 16; shlk 0 24", "place 16; place 16; shlk 0 20; shlk 1 20; mul 3 2", "num most; num most; add 1 0; out 0", "num 1; shlk 0 31; num 0; div 2 2", "place 16; num 16; shl 1 0",
	} {
		refused(t, coded(text), api.ErrOverflow)
	}
	refused(t, codedFor(sound, "in x; mul 0 0"), api.ErrOverflow)
}

// What is reckoned twice is paid twice: this pass takes no instruction away.
func TestErrCost(t *testing.T) {
	refused(t, coded(quotients(50)), api.ErrCost)
	refused(t, coded("num 1; num 1"+strings.Repeat("; mod 0 1", 34)), api.ErrCost)
	refused(t, coded(quotients(49)+"; num 1; num 1; num 1"), api.ErrCost)
	becomes(t, quotients(49)+"; num 1; num 1", quotients(49)+"; num 1; num 1; out 0")
	becomes(t, quotients(49)+"; out 50", quotients(49)+"; out 2")
	becomes(t, "num 1; num 1"+strings.Repeat("; mod 0 1", 33), "num 1; num 1"+strings.Repeat("; mod 0 0", 33)+"; out 2")
}

// 15.1: equal instructions

// Ahead of each instruction of the next tests stand these registers, all of which stay; the registers 3, 6 and 9 come to 1 to 8, which every operator takes. The next ones are 10 and 11.
const ahead = "place 16; andk 0 7; num 1; add 1 2; place 10; andk 4 7; add 2 5; place 3; andk 7 7; add 2 8"

// readers read a register r, whatever it comes to, beside those ahead.
const readers = "; sgn r; lt r 3; lt 3 r; min 3 r; sel r r 6; med 3 6 r; clamp 9 r 3; shrk r 1; andk r 5; out r"

// read writes the readers of a register.
func read(r int) string { return strings.ReplaceAll(readers, " r", fmt.Sprint(" ", r)) }

// bounds are the constants of the operators, at their edges.
var bounds = map[string][][2]int{
	"num": {{0, 0}, {-1, 0}, {2, 0}, {16, 0}, {least, 0}, {most, 0}}, "in": {{0, 0}, {1, 0}, {2, 0}, {3, 0}, {4, 0}, {5, 0}}, "place": {{0, 0}, {1, 0}, {2, 0}, {15, 0}, {43, 0}},
	"shlk": {{0, 0}, {1, 0}, {16, 0}, {27, 0}}, "shrk": {{0, 0}, {1, 0}, {16, 0}, {31, 0}}, "andk": {{0, 0}, {1, 0}, {255, 0}, {most, 0}}, "mulk": {{-1 << 28, 0}, {-1, 0}, {0, 0}, {1, 0}, {3, 0}, {1<<28 - 1, 0}},
	"muls": {{1, 0}, {1, 1}, {1, 62}, {2, 1}, {171, 9}, {171, 10}, {1431655766, 32}, {1 << 31, 31}, {1 << 31, 62}, {1 << 59, 62}},
}

// constantsOf answers the constants with which an operator is asked.
func constantsOf(name string) [][2]int {
	if list, ok := bounds[name]; ok {
		return list
	}
	return [][2]int{{}}
}

// made answers an instruction of an operator with constants, which reads the first so many of the registers.
func made(name string, by [2]int, registers ...int) api.Inst {
	n := api.Inst{Op: slices.Index(names, name), K: by[0], S: by[1]}
	for i, r := range []*int{&n.A, &n.B, &n.C}[:readsOf(name)] {
		*r = registers[i]
	}
	return n
}

// one asks that the second of two instructions behind those ahead becomes the first, and that it is the first that is read.
func one(t *testing.T, n, m api.Inst) {
	t.Helper()
	was, is := written(n), written(m)
	becomes(t, ahead+"; "+was+"; "+is+read(11), ahead+"; "+was+"; "+was+read(10))
	becomes(t, ahead+"; "+was+"; "+is+read(10), ahead+"; "+was+"; "+was+read(10))
}

// two asks that two instructions behind those ahead stay and are read as two.
func two(t *testing.T, n, m api.Inst) {
	t.Helper()
	for _, r := range []int{10, 11} {
		stays(t, ahead+"; "+written(n)+"; "+written(m)+read(r))
	}
}

func TestEqual(t *testing.T) {
	for _, name := range all {
		for _, by := range constantsOf(name) {
			for _, list := range [][]int{{3, 6, 9}, {3, 3, 3}, {3, 9, 6}, {6, 6, 9}, {6, 9, 9}} {
				one(t, made(name, by, list...), made(name, by, list...))
			}
		}
	}
}

// Instructions that differ in one field alone.

func TestOtherOperator(t *testing.T) {
	pairs := 0
	for _, name := range all {
		for _, other := range all {
			if name == other || readsOf(name) != readsOf(other) || constants[name] != constants[other] {
				continue
			}
			for _, list := range [][]int{{3, 6, 9}, {3, 3, 3}} {
				by := [][2]int{{0, 0}, {2, 0}, {2, 1}}[constants[name]]
				two(t, made(name, by, list...), made(other, by, list...))
				pairs++
			}
		}
	}
	if pairs < 600 {
		t.Errorf("%d pairs are asked", pairs)
	}
}

func TestOtherRegister(t *testing.T) {
	for _, name := range all {
		by := constantsOf(name)[0]
		n := made(name, by, 3, 6, 9)
		for i, to := range []int{6, 9, 3}[:readsOf(name)] {
			m := n
			*[]*int{&m.A, &m.B, &m.C}[i] = to
			two(t, n, m)
			two(t, m, n)
		}
	}
}

func TestOtherConstant(t *testing.T) {
	for name, list := range bounds {
		for i, by := range list {
			for j, other := range list {
				n, m := made(name, by, 3), made(name, other, 3)
				if i != j {
					two(t, n, m)
				}
			}
		}
	}
	// Each of the two constants alone.
	two(t, inst("muls 3 171 9"), inst("muls 3 172 9"))
	two(t, inst("muls 3 171 9"), inst("muls 3 171 8"))
	two(t, inst("muls 3 9 8"), inst("muls 3 8 9"))
	two(t, inst("mulk 3 171"), inst("mulk 3 -171"))
}

// What comes to the same, but isn't the same.
func TestAlikeIsNotEqual(t *testing.T) {
	for _, text := range []string{
		"num 0; in lo; num 255; in hi; num 128; in mid; add 1 2; mul 3 4; min 4 5", "place 16; sub 0 0; num 0; xor 0 0; add 1 2; add 2 3", "place 16; add 0 0; shlk 0 1; mulk 0 2; sub 1 2; sub 2 3",
		"place 16; place 10; lt 0 1; gt 1 0; sub 2 3; le 0 1; ge 1 0; sub 5 6", "place 16; place 10; place 3; med 0 1 2; med 1 0 2; med 0 2 1; med 2 1 0; sub 3 4; sub 5 6", "place 16; neg 0; neg 1; neg 2; sub 0 2; sub 1 3",
		"place 16; place 10; sub 0 1; sub 1 0; add 2 3", "place 16; place 10; place 3; add 0 1; add 2 3; add 1 2; add 0 5; sub 4 6", "place 16; num 3; num 4; shl 0 1; shlk 0 3; sub 3 4; and 0 1; andk 0 3; mul 0 1; mulk 0 3",
	} {
		stays(t, text)
		stays(t, text+"; out 0")
	}
	becomesFor(t, sound, "in y; in mid; num 0; add 0 1; add 2 1; in y; sub 5 2", "in y; in mid; num 0; add 0 1; add 1 2; in y; sub 0 2")
}

// All pairs of instructions of one operator: the second is the first just if all fields are equal, or, of the ordered operators, would be with A and B exchanged.
func TestAllPairs(t *testing.T) {
	registers := []int{3, 6, 9}
	got := map[bool]int{}
	for _, name := range all {
		count := readsOf(name)
		power := int(math.Pow(3, float64(count)))
		for i := range power * power {
			var list []int
			for rest := i; len(list) < 2*count; rest /= 3 {
				list = append(list, registers[rest%3])
			}
			by := constantsOf(name)[i%len(constantsOf(name))]
			n, m := made(name, by, list[:count]...), made(name, by, list[count:]...)
			same := n == m
			if slices.Contains(ordered, name) {
				same = same || n.A == m.B && n.B == m.A
			}
			c := coded(ahead)
			c.Insts = append(c.Insts, n, m, inst("lt 11 3"))
			c.Out = 12
			d, e := modelled(t, c, seen{})
			if is := d.Insts[12].A == 10; e != api.OK || is != same {
				t.Errorf("%s becomes %s, %d", shown(c), shown(d), e)
			}
			got[same]++
		}
	}
	if got[true] < 200 || got[false] < 2000 {
		t.Errorf("equal or not: %v", got)
	}
}

func TestLeaves(t *testing.T) {
	becomes(t, "num 7; num 7; sub 0 1; sub 1 0", "num 7; num 7; sub 0 0; sub 0 0; out 2")
	becomes(t, "in x; in x; sub 0 1", "in x; in x; sub 0 0")
	becomes(t, "place 16; place 16; sub 1 1", "place 16; place 16; sub 0 0")
	becomes(t, "num 7; num 8; num 7; sub 2 1; sub 1 2; sub 0 1", "num 7; num 8; num 7; sub 0 1; sub 1 0; sub 0 1; out 3")
	becomes(t, "in x; in y; in c; in c; in y; in x; clamp 5 4 3", "in x; in y; in c; in c; in y; in x; clamp 0 1 2")
	becomes(t, "place 1; place 2; place 3; place 2; place 1; med 4 3 2", "place 1; place 2; place 3; place 2; place 1; med 0 1 2")
	// One constant of three operators.
	for k := range 6 {
		text := fmt.Sprintf("num %d; in %d; place %d; sub 0 1; sub 1 2; sub 2 0", k, k, k)
		stays(t, text)
		becomes(t, fmt.Sprintf("%s; place %d; in %d; num %d; med 6 7 8", text, k, k, k), fmt.Sprintf("%s; place %d; in %d; num %d; med 2 1 0", text, k, k, k))
	}
	kinds(func(k api.Kind) {
		for n := range 6 {
			becomesFor(t, k, fmt.Sprintf("in %d; in %d; sgn 1", n, n), fmt.Sprintf("in %d; in %d; sgn 0", n, n))
			becomesFor(t, k, fmt.Sprintf("in %d; in %d; sgn 1", n, (n+1)%6), fmt.Sprintf("in %d; in %d; sgn 1", n, (n+1)%6))
		}
		for n := range kind.Count(k) {
			becomesFor(t, k, fmt.Sprintf("place %d; place %d; out 1", n, n), fmt.Sprintf("place %d; place %d; out 0", n, n))
		}
	})
}

// The register stands for that of the first equal one, however many there are.
func TestMoreThanTwo(t *testing.T) {
	becomes(t, "place 16; place 16; place 16; sub 2 1; sub 1 2; out 4", "place 16; place 16; place 16; sub 0 0; sub 0 0; out 3")
	becomes(t, "place 16; neg 0; place 16; neg 2; place 16; neg 4; sub 3 5", "place 16; neg 0; place 16; neg 0; place 16; neg 0; sub 1 1")
	becomes(t, "place 16; place 10; add 1 0; add 0 1; add 1 0; add 0 1; med 5 4 3; out 5", "place 16; place 10; add 0 1; add 0 1; add 0 1; add 0 1; med 2 2 2; out 2")
	for _, text := range []string{"place 16", "num -4", "in c"} {
		for _, count := range []int{2, 3, 50, 199} {
			list := strings.TrimSuffix(strings.Repeat(text+"; ", count), "; ")
			becomes(t, list, list+"; out 0")
			becomes(t, "num 9; "+list, "num 9; "+list+"; out 1")
		}
	}
	// The equal ones are read, each by another.
	var code, want []string
	for range 100 {
		code, want = append(code, "place 16"), append(want, "place 16")
	}
	for i := range 100 {
		code, want = append(code, fmt.Sprint("shlk ", i, " ", i%7)), append(want, fmt.Sprint("shlk 0 ", i%7))
	}
	for out := range 200 {
		to := 0
		if out >= 100 {
			to = 100 + (out-100)%7
		}
		becomes(t, strings.Join(code, "; ")+fmt.Sprint("; out ", out), strings.Join(want, "; ")+fmt.Sprint("; out ", to))
	}
}

// 15.1: step by step

// Equal only behind the exchange of registers.
func TestExchanged(t *testing.T) {
	becomes(t, "place 16; place 16; neg 0; neg 1; abs 2; abs 3; sub 4 5", "place 16; place 16; neg 0; neg 0; abs 2; abs 2; sub 4 4")
	becomes(t, "place 16; place 16; shlk 0 3; shlk 1 3; muls 2 171 9; muls 3 171 9; lt 4 5", "place 16; place 16; shlk 0 3; shlk 0 3; muls 2 171 9; muls 2 171 9; lt 4 4")
	becomes(t, "place 16; place 16; place 10; place 10; sub 0 2; sub 1 3; sub 0 3; sub 1 2; sel 4 5 6; sel 7 4 5; sub 8 9", "place 16; place 16; place 10; place 10; sub 0 2; sub 0 2; sub 0 2; sub 0 2; sel 4 4 4; sel 4 4 4; sub 8 8")
	becomes(t, "place 16; place 10; place 16; place 10; lt 0 1; lt 2 3; sel 4 0 1; sel 5 2 3; sel 4 2 1; out 8", "place 16; place 10; place 16; place 10; lt 0 1; lt 0 1; sel 4 0 1; sel 4 0 1; sel 4 0 1; out 6")
	// What was equal ahead of the exchange is equal behind it too.
	becomes(t, "place 16; place 16; neg 1; neg 1; neg 0; sub 3 4", "place 16; place 16; neg 0; neg 0; neg 0; sub 2 2")
}

// Equal only behind the ordering.
func TestOrdered(t *testing.T) {
	for _, name := range all {
		if readsOf(name) != 2 {
			continue
		}
		n, m := made(name, [2]int{}, 3, 6), made(name, [2]int{}, 6, 3)
		if slices.Contains(ordered, name) {
			one(t, n, m)
			becomes(t, ahead+"; "+written(m)+"; "+written(n)+read(11), ahead+"; "+written(n)+"; "+written(n)+read(10))
			becomes(t, ahead+"; "+written(m)+"; "+written(m)+read(11), ahead+"; "+written(n)+"; "+written(n)+read(10))
			becomes(t, ahead+"; "+written(m)+read(10), ahead+"; "+written(n)+read(10))
			becomes(t, ahead+"; "+written(m)+"; out 0", ahead+"; "+written(n)+"; out 0")
		} else {
			two(t, n, m)
			two(t, m, n)
			stays(t, ahead+"; "+written(m)+read(10))
		}
		stays(t, ahead+"; "+written(n)+read(10))
		same := made(name, [2]int{}, 6, 6)
		stays(t, ahead+"; "+written(same)+read(10))
		two(t, n, same)
		two(t, same, n)
	}
	// Operators of three registers are ordered by none of these.
	for _, name := range []string{"clamp", "med", "sel"} {
		lists := [][]int{{3, 6, 9}, {3, 9, 6}, {6, 3, 9}, {6, 9, 3}, {9, 3, 6}, {9, 6, 3}}
		for i, list := range lists {
			for j, other := range lists {
				if i != j {
					two(t, made(name, [2]int{}, list...), made(name, [2]int{}, other...))
				}
			}
		}
	}
}

// The ordering comes behind the exchange.
func TestExchangedThenOrdered(t *testing.T) {
	becomes(t, "place 16; place 10; place 16; add 1 2", "place 16; place 10; place 16; add 0 1")
	becomes(t, "place 16; place 10; place 16; add 2 1", "place 16; place 10; place 16; add 0 1")
	becomes(t, "place 16; place 10; place 16; sub 1 2; sub 2 1", "place 16; place 10; place 16; sub 1 0; sub 0 1")
	becomes(t, "place 16; place 10; place 10; place 16; add 0 1; add 2 3; sub 5 4", "place 16; place 10; place 10; place 16; add 0 1; add 0 1; sub 4 4")
	becomes(t, "place 16; place 10; place 16; xor 1 2; xor 0 1; xor 2 1; med 3 4 5", "place 16; place 10; place 16; xor 0 1; xor 0 1; xor 0 1; med 3 3 3")
	for _, name := range ordered {
		becomes(t, ahead+"; place 16; andk 10 7; add 2 11; "+name+" 9 12; "+name+" 3 9; out 14", ahead+"; place 16; andk 0 7; add 1 2; "+name+" 3 9; "+name+" 3 9; out 13")
	}
}

// Several steps deep.
func TestSteps(t *testing.T) {
	becomes(t, "place 16; place 10; add 0 1; mul 2 1; add 1 0; mul 1 4; sub 3 5", "place 16; place 10; add 0 1; mul 1 2; add 0 1; mul 1 2; sub 3 3")
	becomes(t, "place 16; place 10; max 1 0; min 1 0; xor 3 2; max 0 1; min 0 1; xor 5 6; shrk 4 1; shrk 7 1; eq 9 8; out 9", "place 16; place 10; max 0 1; min 0 1; xor 2 3; max 0 1; min 0 1; xor 2 3; shrk 4 1; shrk 4 1; eq 8 8; out 8")
	// The one is found deep, the other isn't: a step that differs parts all behind it.
	becomes(t, "place 16; place 16; neg 0; neg 1; shlk 2 1; shlk 3 2; abs 4; abs 5; sub 6 7", "place 16; place 16; neg 0; neg 0; shlk 2 1; shlk 2 2; abs 4; abs 5; sub 6 7")
	becomes(t, "place 16; place 16; lt 0 1; gt 1 0; sgn 2; sgn 3; eq 5 4", "place 16; place 16; lt 0 0; gt 0 0; sgn 2; sgn 3; eq 4 5")
}

// Two chains of 99 steps, of which the one stands for the other.
func TestLongChains(t *testing.T) {
	code, want := []string{"place 16", "place 16"}, []string{"place 16", "place 16"}
	for i := 2; i < 200; i++ {
		name := []string{"abs", "sgn", "shrk", "andk", "and", "or", "xor", "min", "max"}[i/2%9]
		switch {
		case name == "shrk" || name == "andk":
			code, want = append(code, fmt.Sprint(name, " ", i-2, " 1")), append(want, fmt.Sprint(name, " ", i/2*2-2, " 1"))
		case readsOf(name) == 1:
			code, want = append(code, fmt.Sprint(name, " ", i-2)), append(want, fmt.Sprint(name, " ", i/2*2-2))
		case i%4 < 2:
			code, want = append(code, fmt.Sprint(name, " ", i-2, " ", i%2)), append(want, fmt.Sprint(name, " 0 ", i/2*2-2))
		default:
			code, want = append(code, fmt.Sprint(name, " ", i%2, " ", i-2)), append(want, fmt.Sprint(name, " 0 ", i/2*2-2))
		}
	}
	for out := range 200 {
		becomes(t, fmt.Sprint(strings.Join(code, "; "), "; out ", out), fmt.Sprint(strings.Join(want, "; "), "; out ", out/2*2))
	}
	// A chain of which each step reads the one ahead and none is equal to another.
	text := "place 16"
	for i := 1; i < 200; i++ {
		text += fmt.Sprint("; ", []string{"neg", "abs", "sgn"}[i%3], " ", i-1)
		stays(t, text)
	}
}

// 15.1: Out, and what stays

func TestOut(t *testing.T) {
	code := "place 16; place 10; place 16; add 1 0; add 1 2; sub 4 3; num 5; num 5; sub 3 4; neg 7"
	want := "place 16; place 10; place 16; add 0 1; add 0 1; sub 3 3; num 5; num 5; sub 3 3; neg 6"
	for out, to := range []int{0, 1, 0, 3, 3, 5, 6, 6, 5, 9} {
		becomes(t, fmt.Sprint(code, "; out ", out), fmt.Sprint(want, "; out ", to))
	}
	for out := range 200 {
		text := strings.Repeat("place 16; ", 200)
		becomes(t, fmt.Sprint(text, "out ", out), fmt.Sprint(text, "out 0"))
	}
	for out := range 31 {
		text := ""
		for i := range 31 {
			text += fmt.Sprint("place ", i, "; ")
		}
		becomesFor(t, sound, fmt.Sprint(text, "out ", out), fmt.Sprint(text, "out ", out))
	}
}

// An instruction stays though nothing reads it any more: it isn't taken away, and its own registers are exchanged and ordered too.
func TestStaysUnread(t *testing.T) {
	becomes(t, "place 16; place 10; place 16; place 10; min 1 0; min 3 2; neg 5; out 6", "place 16; place 10; place 16; place 10; min 0 1; min 0 1; neg 4; out 6")
	becomes(t, "place 16; place 10; place 16; sub 1 2; sub 1 0; med 4 2 1; med 3 0 1; out 0", "place 16; place 10; place 16; sub 1 0; sub 1 0; med 3 0 1; med 3 0 1; out 0")
	becomes(t, "place 16; place 16; mulk 1 3; mulk 1 3; clamp 1 1 1; num 1; out 5", "place 16; place 16; mulk 0 3; mulk 0 3; clamp 0 0 0; num 1; out 5")
	becomes(t, "place 16; place 10; ne 1 0; num 3; out 3", "place 16; place 10; ne 0 1; num 3; out 3")
}

// 15.2

func TestOrder(t *testing.T) {
	numbers := append([]int{-2, -1, 0, 1, 2, 199, 200, 255}, far...)
	ops := append([]int{1<<32 + api.OpAdd, -1<<32 + api.OpMul, 1<<8 + api.OpMax}, far...)
	for op := -300; op <= 300; op++ {
		ops = append(ops, op)
	}
	turned := map[string]int{}
	for _, op := range ops {
		for _, a := range numbers {
			for _, b := range numbers {
				n := api.Inst{Op: op, A: a, B: b, C: b, K: a, S: b}
				want := n
				if op > 0 && op < len(names) && slices.Contains(ordered, names[op]) && a > b {
					want.A, want.B = b, a
					turned[names[op]]++
				}
				if got := share.Order(n); got != want {
					t.Fatalf("Order(%+v) = %+v, not %+v", n, got, want)
				}
				if got := share.Order(share.Order(n)); got != want {
					t.Fatalf("Order(Order(%+v)) = %+v, not %+v", n, got, want)
				}
			}
		}
	}
	if len(turned) != 9 {
		t.Errorf("ordered are %v", turned)
	}
}

func TestOrderByHand(t *testing.T) {
	for text, want := range map[string]string{
		"add 1 0": "add 0 1", "add 0 1": "add 0 1", "add 1 1": "add 1 1", "mul 7 3": "mul 3 7", "and 199 0": "and 0 199", "or 2 1": "or 1 2", "xor 5 4": "xor 4 5", "eq 9 8": "eq 8 9", "ne 3 0": "ne 0 3", "min 3 1": "min 1 3", "max 3 1": "max 1 3", "max 1 3": "max 1 3",
		"sub 1 0": "sub 1 0", "div 1 0": "div 1 0", "mod 1 0": "mod 1 0", "shl 1 0": "shl 1 0", "shr 1 0": "shr 1 0", "lt 1 0": "lt 1 0", "le 1 0": "le 1 0", "gt 1 0": "gt 1 0", "ge 1 0": "ge 1 0",
		"clamp 2 1 0": "clamp 2 1 0", "med 2 1 0": "med 2 1 0", "sel 2 1 0": "sel 2 1 0", "neg 1": "neg 1", "abs 1": "abs 1", "sgn 1": "sgn 1", "num 7": "num 7", "in 2": "in 2", "place 16": "place 16", "shlk 3 2": "shlk 3 2", "shrk 3 2": "shrk 3 2", "andk 3 2": "andk 3 2", "mulk 3 2": "mulk 3 2", "muls 3 2 1": "muls 3 2 1", "use 2 1": "use 2 1",
	} {
		if got := share.Order(inst(text)); got != inst(want) {
			t.Errorf("Order(%s) = %+v, not %s", text, got, want)
		}
	}
	if got := share.Order(api.Inst{}); got != (api.Inst{}) {
		t.Errorf("Order of the zero instruction is %+v", got)
	}
}

// The two orders of an ordered operator come to the same and have the same span; of the other operators they don't always.
func TestOrderKeepsTheMeaning(t *testing.T) {
	numbers := []int{least, least + 1, -3, -1, 0, 1, 2, 31, 255, most}
	for _, name := range all {
		if readsOf(name) != 2 {
			continue
		}
		op, parted := slices.Index(names, name), 0
		for _, a := range numbers {
			for _, b := range numbers {
				x, e := arith.Value(op, 0, 0, a, b)
				y, f := arith.Value(op, 0, 0, b, a)
				if x != y || e != f {
					parted++
				}
			}
		}
		if slices.Contains(ordered, name) != (parted == 0) {
			t.Errorf("%s: of %d pairs the order matters", name, parted)
		}
	}
}

// 15.3: a pass

const median = "med(p(-1,0),p(0,-1),p(-1,0)+p(0,-1)-p(-1,-1))"

// programs are ordinary ones, of images, of sounds and of both.
var programs = []string{
	"1", "x", "y", "c", "lo", "hi", "mid", "p(-1,0)", "q(1,-1)", "q(3,1,1)", "p(-16)", "p(-1,0)+1", "(p(-1,0)+p(0,-1))/2", median,
	"p(-1,-1)>=max(p(-1,0),p(0,-1))?min(p(-1,0),p(0,-1)):p(-1,-1)<=min(p(0,-1),p(-1,0))?max(p(0,-1),p(-1,0)):p(-1,0)+p(0,-1)-p(-1,-1)", "1/(abs(p(-1,0)-p(0,-1))+1)", "(x&255)*(x&255)", "2*p(-1)-p(-2)", "clamp(2*p(-1)-p(-2),lo,hi)", "let a=hi;a*a", "x?1:y?2:3", "c?q(1,0,0)+p(-1,0)-q(1,-1,0):mid",
	"abs(p(-1,0)-p(0,-1))<2?0:abs(p(-1,0)-p(0,-1))<8?1:abs(p(-1,0)-p(0,-1))<32?2:3", "-x", "--x-(--x)", "sgn(-x)<<3>>1", "1<<2<3|4&5^6", "let a=1;let b=a;let c2=a+b;(c2%3==0)!=(a>b)", "min(x,max(y,-c))+min(max(-c,y),x)", "let unused=q(3,-4);2147483647",
	"(p(-1)-p(-2))/3+(p(-1)-p(-2))%5*(p(-1)-p(-2)>>1)-(p(-1)-p(-2)<<2)&7", "hi-lo+1-(hi-lo+1)", "(p(-1)+p(-2))*(p(-2)+p(-1)&255)", "p(-1,0)+p(0,-1)-(p(0,-1)+p(-1,0))", "let a=p(-1);let b=p(-1);a-b", "let a=p(-1,0);let b=p(0,-1);a+b==b+a?a*b==b*a:a-b==b-a",
	"(p(-1)&p(-2)|p(-3))-(p(-3)|p(-2)&p(-1))", "(p(-1)^p(-2))!=(p(-2)^p(-1))", "max(p(-1),p(-2))-min(p(-2),p(-1))+max(p(-2),p(-1))", "(p(-1)==p(-2))+(p(-2)==p(-1))", "(p(-1)<p(-2))+(p(-2)>p(-1))+(p(-1)<p(-2))",
	"clamp(p(-1),lo,hi)+clamp(p(-1),lo,hi)-clamp(p(-1),hi,lo)", "med(p(-1),p(-2),p(-3))-med(p(-2),p(-1),p(-3))+med(p(-1),p(-2),p(-3))", "(x?p(-1):p(-2))-(x?p(-1):p(-2))",
	"0" + strings.Repeat("+1%2", 22), strings.Repeat("-", 23) + "1", "1" + strings.Repeat("%7", 28), "1" + strings.Repeat("/7", 39),
}

func TestPrograms(t *testing.T) {
	taken, changed := 0, 0
	kinds(func(k api.Kind) {
		for _, text := range programs {
			tree, e := parse.Parse(text)
			if e != api.OK {
				t.Fatalf("Parse(%q): %d", text, e)
			}
			c, e := lower.Lower(k, tree)
			if e != api.OK {
				continue
			}
			d, e := modelled(t, c, seen{})
			if e != api.OK {
				t.Errorf("%q for %v: %d", text, k, e)
			}
			if taken++; !code.Same(c, d) {
				changed++
			}
			// What was folded is shared too.
			folded, e := fold.Fold(c)
			if e != api.OK {
				t.Errorf("%q for %v: %d", text, k, e)
			}
			modelled(t, folded, seen{})
		}
	})
	if taken < 1000 || changed < 400 {
		t.Errorf("%d programs are taken, %d are changed", taken, changed)
	}
}

// sketch answers a code of a kind that may be, which has much to share; places are below a number. Of a hundred instructions that would be refused so many are kept.
func sketch(next func(int) int, k api.Kind, count, places, kept int) api.Code {
	c := api.Code{Kind: k}
	for i := 0; i < count && code.Cost(c) < 194; i++ {
		c.Insts = append(c.Insts, drawn(next, c.Insts, places))
		if _, e := verify.Verify(c); e != api.OK && next(100) >= kept {
			c.Insts[i] = api.Inst{Op: api.OpNum, K: next(4) - 1}
		}
	}
	c.Out = next(len(c.Insts))
	if next(2) == 0 {
		c.Out = len(c.Insts) - 1
	}
	return c
}

// drawn answers an instruction behind others: a new one, or one like another of them, with its registers turned or one of its fields changed.
func drawn(next func(int) int, list []api.Inst, places int) api.Inst {
	if len(list) == 0 || next(3) == 0 {
		return fresh(next, len(list), places)
	}
	n := list[next(len(list))]
	fields := []*int{&n.A, &n.B, &n.C}[:readsOf(names[n.Op])]
	switch next(8) {
	case 0, 1, 2:
		if len(fields) > 1 {
			n.A, n.B = n.B, n.A
		}
	case 3, 4:
		// A register like the one that is read.
		if len(fields) > 0 {
			r := fields[next(len(fields))]
			for i, m := range list {
				if m == list[*r] && next(2) == 0 {
					*r = i
				}
			}
		}
	case 5:
		if len(fields) > 0 {
			*fields[next(len(fields))] = next(len(list))
		}
	case 6:
		return fresh(next, len(list), places)
	}
	return n
}

// fresh answers an instruction that reads registers ahead of the number i.
func fresh(next func(int) int, i, places int) api.Inst {
	name := all[next(len(all))]
	if i == 0 || next(4) == 0 {
		name = []string{"num", "in", "place", "place", "place"}[next(5)]
	}
	n := api.Inst{Op: slices.Index(names, name)}
	for _, r := range []*int{&n.A, &n.B, &n.C}[:readsOf(name)] {
		if *r = next(i); next(2) == 0 {
			*r = i - 1 - next(min(i, 4))
		}
	}
	switch name {
	case "num":
		n.K = []int{0, 1, -1, 2, 5, next(100) - 50}[next(6)]
	case "in":
		n.K = next(6)
	case "place":
		n.K = next(places)
		if next(3) > 0 {
			n.K = next(min(places, 3))
		}
	case "shlk", "shrk", "mulk", "andk", "muls":
		by := bounds[name][next(len(bounds[name]))]
		n.K, n.S = by[0], by[1]
	}
	return n
}

// allSeen asks that every operator was equal to one ahead: as it was, behind the exchange, and behind the ordering where it is one of those.
func allSeen(t *testing.T, hits seen) {
	t.Helper()
	for _, name := range all {
		if hits[name+" as it was"] == 0 || readsOf(name) > 0 && hits[name+" exchanged"] == 0 || slices.Contains(ordered, name) != (hits[name+" ordered"] > 0) {
			t.Errorf("%s was equal to one ahead so often: %d, exchanged %d, ordered %d", name, hits[name+" as it was"], hits[name+" exchanged"], hits[name+" ordered"])
		}
	}
}

func TestCodesAtRandom(t *testing.T) {
	next := draw(15)
	got := map[api.Errno]int{}
	hits := seen{}
	changed, others, stayed := 0, 0, 0
	for i := range 12000 {
		k := api.Kind{Form: next(2), Depth: 1 + next(16)}
		limit := kind.Count(k)
		if next(10) == 0 {
			limit = 60
		}
		count, kept := 1+next(18), 25
		if i%60 == 0 {
			count, kept = 100+next(101), 0
		}
		c := sketch(next, k, count, limit, kept)
		d, e := modelled(t, c, hits)
		if got[e]++; e != api.OK {
			continue
		}
		if code.Same(c, d) {
			stayed++
		} else {
			changed++
		}
		if d.Out != c.Out {
			others++
		}
	}
	for e, least := range map[api.Errno]int{api.OK: 6000, api.ErrAhead: 20, api.ErrDivZero: 100, api.ErrOverflow: 100} {
		if got[e] < least {
			t.Errorf("the answer %d came %d times", e, got[e])
		}
	}
	if changed < 3000 || stayed < 500 || others < 500 {
		t.Errorf("%d codes are changed, %d stay, %d answer another register", changed, stayed, others)
	}
	allSeen(t, hits)
}

// On every window of three places and a plane, of the least depths.
func TestAllWindows(t *testing.T) {
	next := draw(3)
	for _, k := range []api.Kind{{Form: api.Image, Depth: 1}, {Form: api.Sound, Depth: 1}, {Form: api.Image, Depth: 2}, {Form: api.Sound, Depth: 2}} {
		low, size := kind.Low(k), kind.High(k)-kind.Low(k)+1
		changed := 0
		for range 150 {
			c := sketch(next, k, 4+next(14), 3, 0)
			d, e := modelled(t, c, seen{})
			if e != api.OK {
				continue
			}
			if !code.Same(c, d) {
				changed++
			}
			w := windowOf(k, uint(next(20)))
			for i := range size * size * size * 4 {
				w.P[0], w.P[1], w.P[2], w.C = low+i%size, low+i/size%size, low+i/size/size%size, i/size/size/size
				answersAlike(t, c, d, w)
			}
		}
		if changed < 50 {
			t.Errorf("%d codes of %v are changed", changed, k)
		}
	}
}

func TestOneThingChanged(t *testing.T) {
	next := draw(5)
	got := map[api.Errno]int{}
	for range 100 {
		k := api.Kind{Form: next(2), Depth: 1 + next(16)}
		c := sketch(next, k, 1+next(16), kind.Count(k), 0)
		fields := []*int{&c.Out, &c.Kind.Form, &c.Kind.Depth}
		for i := range c.Insts {
			n := &c.Insts[i]
			fields = append(fields, &n.Op, &n.A, &n.B, &n.C, &n.K, &n.S)
		}
		for _, field := range fields {
			old := *field
			for _, to := range append([]int{old - 1, old + 1, -1, 0, 1, 2, 5, 6, 30, 31, 32, 43, 44, 62, 63, 255, 256, len(c.Insts) - 1, len(c.Insts)}, far...) {
				*field = to
				_, e := modelled(t, c, seen{})
				got[e]++
			}
			*field = old
		}
	}
	for e, least := range map[api.Errno]int{api.OK: 1000, api.ErrCode: 5000, api.ErrAhead: 20, api.ErrDivZero: 20, api.ErrOverflow: 50} {
		if got[e] < least {
			t.Errorf("the answer %d came %d times", e, got[e])
		}
	}
}

// P1

// Codes of any numbers: whatever they are, there is an answer, and it is refused just where Verify refuses it.
func TestWildCodes(t *testing.T) {
	next := draw(7)
	number := func() int {
		switch next(4) {
		case 0, 1:
			return 0
		case 2:
			return next(8) - 1
		}
		return append([]int{least, most, 1 << 31, 1 << 62, 255, 256}, far...)[next(6+len(far))]
	}
	for range 30000 {
		c := api.Code{Kind: api.Kind{Form: next(3), Depth: next(18)}, Out: number()}
		for range next(6) {
			c.Insts = append(c.Insts, api.Inst{Op: next(40) - 2, A: number(), B: number(), C: number(), K: number(), S: number()})
		}
		modelled(t, c, seen{})
		for _, n := range c.Insts {
			if got := share.Order(n); got != modelOrder(n) {
				t.Errorf("Order(%+v) = %+v", n, got)
			}
		}
	}
	refused(t, api.Code{Kind: image, Insts: slices.Repeat([]api.Inst{{Op: api.OpNum}}, 1<<20)}, api.ErrCode)
}

// examples are codes that are taken: such as stay as they were, and such as don't.
var examples = []string{
	"num 1", "place 16; neg 0", "place 16; place 10; add 0 1; shrk 2 1", "place 1; place 2; place 3; med 0 1 2",
	"num 2; num 3; mul 1 0", "in hi; in hi", "place 16; place 10; add 0 1; add 1 0; sub 3 2", "place 16; place 16; sub 1 0; sub 0 1; out 3", quotients(49), strings.TrimSuffix(strings.Repeat("place 16; ", 200), "; "),
}

func TestAnswersAreNewMemory(t *testing.T) {
	var last []api.Code
	for _, text := range examples {
		source := coded(text)
		c, stands := roomy(source)
		one, _ := share.Share(c)
		two, _ := share.Share(c)
		kept := api.Code{Kind: two.Kind, Insts: slices.Clone(two.Insts), Out: two.Out}
		if len(kept.Insts) != len(source.Insts) || !code.Same(one, two) {
			t.Errorf("%s: %s, then %s", text, shown(one), shown(two))
		}
		list := one.Insts[:cap(one.Insts)]
		for i := range list {
			list[i] = api.Inst{Op: -99, A: -98}
		}
		if !code.Same(two, kept) {
			t.Errorf("%s: two answers share memory", text)
		}
		if !stands() {
			t.Errorf("%s: an answer shares memory with the code", text)
		}
		three, e := share.Share(c)
		if e != api.OK || !code.Same(three, two) {
			t.Errorf("%s: what was written into an answer is seen: %s, %d", text, shown(three), e)
		}
		for i := range c.Insts {
			c.Insts[i] = api.Inst{Op: -1, A: -1, K: -1}
		}
		if !code.Same(three, kept) {
			t.Errorf("%s: what was written into the code is seen", text)
		}
		last = append(last, three)
	}
	// Answers to other codes are left alone too.
	for i, text := range examples {
		if want, _ := model(coded(text), seen{}); !code.Same(last[i], want) {
			t.Errorf("%s: the answer has become %s", text, shown(last[i]))
		}
	}
}

// What a call answers hangs on its code alone: not on calls ahead of it, refused ones among them, nor on the list's room.
func TestOneCodeOneAnswer(t *testing.T) {
	next := draw(23)
	for i := range 200 {
		c := sketch(next, image, 1+next(12), 44+i%2*10, 10)
		want, f := share.Share(c)
		for range 3 {
			for _, text := range append([]string{"place 44", "num 0; div 0 0", quotients(50), "num most; add 0 0"}, examples...) {
				share.Share(coded(text))
			}
			share.Share(codedFor(sound, "in lo; in mid; in y; add 1 2; in lo"))
			share.Share(api.Code{})
			d := c
			d.Insts = slices.Grow(slices.Clone(c.Insts), 50)
			if got, e := share.Share(d); e != f || !code.Same(got, want) {
				t.Errorf("Share(%s): %s, %d, not %s, %d", shown(c), shown(got), e, shown(want), f)
			}
		}
	}
}

// The tests' own windows and operators are those of the layers below.
func TestTheTestsModel(t *testing.T) {
	kinds(func(k api.Kind) {
		for seed := range uint(50) {
			if w := windowOf(k, seed); kind.Fits(k, w) != api.OK {
				t.Errorf("%v: %v doesn't fit", k, w)
			}
		}
	})
	for op, name := range names {
		want := -1
		if slices.Contains(all, name) {
			want = readsOf(name)
		}
		if arith.Arity(op) != want {
			t.Errorf("%s reads %d registers", name, arith.Arity(op))
		}
	}
	if len(all) != 32 || names[api.OpMulS] != "muls" || names[api.OpAdd] != "add" || names[api.OpClamp] != "clamp" || names[api.OpPlace] != "place" {
		t.Errorf("the operators are %v", names)
	}
	stays(t, ahead)
}
