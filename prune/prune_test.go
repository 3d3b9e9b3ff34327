package prune_test

import (
	"fmt"
	"math"
	"slices"
	"strings"
	"testing"

	"damask/api"
	"damask/arith"
	"damask/code"
	"damask/fold"
	"damask/kind"
	"damask/lower"
	"damask/parse"
	"damask/prune"
	"damask/reduce"
	"damask/share"
	"damask/verify"
)

// far are numbers far from all that may stand in a code.
var far = []int{math.MinInt, math.MinInt + 1, -1 << 62, -1 << 32, least - 1, 1 << 32, 1<<32 + 1, 1<<62 + 1, math.MaxInt - 1, math.MaxInt}

// The chapter's examples

func TestExamples(t *testing.T) {
	const example = "place 16; num 9; place 10; add 0 1; sub 2 0; neg 3; "
	lives(t, example+"out 4", "0 2 4")
	becomes(t, example+"out 4", "place 16; place 10; sub 1 0; out 2")
	lives(t, example+"out 1", "1")
	becomes(t, example+"out 1", "num 9; out 0")
}

// 17.1: errors

// quotients writes two numbers and so many divisions of the one by the other: 4 each, and 2.
func quotients(count int) string { return "num 1; num 2" + strings.Repeat("; div 0 1", count) }

// wrongInsts are instructions that may not be the third one, behind two numbers.
func wrongInsts() []api.Inst {
	// A field that the operator hasn't isn't 0.
	list := []api.Inst{{Op: api.OpNum, A: 1}, {Op: api.OpNum, S: 1}, {Op: api.OpIn, K: api.InLo, C: 1}, {Op: api.OpPlace, B: -1}, {Op: api.OpNeg, B: 1}, {Op: api.OpAdd, C: 1}, {Op: api.OpAdd, K: 1}, {Op: api.OpSel, S: 1}, {Op: api.OpMulK, S: 1}}
	for _, text := range []string{
		"neg 2", "neg 3", "neg -1", "add 0 2", "add 2 0", "sub 1 -1", "sel 0 0 2", "sel 0 2 0", "sel 2 0 0", "med 0 1 -1", "use 0 0",
		"num 2147483648", "num -2147483649", "in 6", "in -1", "place 256", "place -1", "shlk 0 32", "shrk 0 -1", "andk 0 -1", "mulk 0 2147483648", "muls 0 0 0", "muls 0 1 63",
	} {
		list = append(list, inst(text))
	}
	for _, op := range append([]int{-1, 0, api.OpUse, api.OpMulS + 1, 1<<32 + api.OpNum, 1<<32 + api.OpAdd}, far...) {
		list = append(list, api.Inst{Op: op}, api.Inst{Op: op, A: 1})
	}
	return list
}

func TestWrongLengthKindOrOut(t *testing.T) {
	refused(t, api.Code{}, api.ErrCode)
	refused(t, api.Code{Kind: image}, api.ErrCode)
	refused(t, api.Code{Kind: image, Insts: []api.Inst{}}, api.ErrCode)
	refused(t, api.Code{Kind: image, Insts: slices.Repeat([]api.Inst{{Op: api.OpNum}}, 1<<20)}, api.ErrCode)
	refused(t, coded(strings.Repeat("num 0; ", 200)+"num 0"), api.ErrCode)
	refused(t, coded(strings.Repeat("num 0; ", 200)+"num 0; out 0"), api.ErrCode)
	for _, k := range []api.Kind{{Form: 2, Depth: 8}, {Form: -1, Depth: 8}, {Form: 0, Depth: 0}, {Form: 1, Depth: 17}, {Form: 1, Depth: -1}, {Form: 1 << 32, Depth: 8}} {
		for _, text := range []string{"num 1", "num 1; num 1; out 0", "in lo", "place 0", "num 2; num 3; mul 1 0", "place 44", "num 0; div 0 0"} {
			refused(t, codedFor(k, text), api.ErrCode)
		}
	}
	for _, out := range append([]int{-1, -2, 3, 4, 200, 255}, far...) {
		refused(t, api.Code{Kind: image, Insts: coded("num 1; num 2; add 0 1").Insts, Out: out}, api.ErrCode)
	}
}

// Whether the wrong instruction is the answer's, is read, is read by none, or stands behind the answer's: the code may not be.
func TestWrongInstructions(t *testing.T) {
	for _, n := range wrongInsts() {
		for _, rest := range []string{"sgn 2", "sgn 0"} {
			for out := range 4 {
				refused(t, api.Code{Kind: image, Insts: []api.Inst{inst("num 1"), inst("num 1"), n, inst(rest)}, Out: out}, api.ErrCode)
			}
		}
	}
}

func TestErrAhead(t *testing.T) {
	for _, text := range []string{"place 44", "place 255", "place 44; neg 0", "num 1; place 44; out 0", "place 44; num 1", "num 0; div 0 0; place 44", "place 44; num 0; mul 1 0", quotients(50) + "; place 44"} {
		refused(t, coded(text), api.ErrAhead)
	}
	refused(t, codedFor(sound, "place 31"), api.ErrAhead)
	refused(t, codedFor(sound, "place 43; num 1; out 1"), api.ErrAhead)
}

// The error is that of the code as it was, whatever nothing reads.
func TestErrDivZero(t *testing.T) {
	for _, text := range []string{
		"num 0; div 0 0", "num 0; mod 0 0", "num 1; in lo; div 0 1", "place 16; num 1; div 1 0", "place 16; mod 0 0", "num 1; num 0; div 0 1; out 0", "num 1; num 0; div 0 1; num 7",
		"num 0; div 0 0; num most; add 2 2", "num 0; mod 0 0; " + strings.Repeat("num 0; ", 198-2) + "mod 0 0",
	} {
		refused(t, coded(text), api.ErrDivZero)
	}
	refused(t, codedFor(sound, "num 1; in mid; mod 0 1"), api.ErrDivZero)
}

func TestErrOverflow(t *testing.T) {
	for _, text := range []string{
		"num most; num 1; add 1 0", "num least; neg 0", "num least; abs 0", "num 1; num 32; shl 0 1", "num 1; num -1; shr 0 1", "num 1; shlk 0 31", "num 2; muls 0 4611686018427387904 62", "num least; num -1; div 0 1",
		"place 16; shlk 0 24", "num most; add 0 0; out 0", "num most; add 0 0; num 3", "num 1; shlk 0 31; num 0; div 2 2", "place 16; num 16; shl 1 0",
	} {
		refused(t, coded(text), api.ErrOverflow)
	}
	refused(t, codedFor(sound, "in x; mul 0 0"), api.ErrOverflow)
}

// What is never read is paid all the same, ahead of the pass.
func TestErrCost(t *testing.T) {
	refused(t, coded(quotients(50)), api.ErrCost)
	refused(t, coded(quotients(50)+"; out 0"), api.ErrCost)
	refused(t, coded("num 1; num 1"+strings.Repeat("; mod 0 1", 34)), api.ErrCost)
	refused(t, coded(quotients(49)+"; num 1; num 1; num 1"), api.ErrCost)
	becomes(t, quotients(49)+"; num 1; num 5", "num 5")
	becomes(t, quotients(49)+"; out 50", "num 1; num 2; div 0 1")
	becomes(t, "num 1; num 1"+strings.Repeat("; mod 0 1", 33), "num 1; num 1; mod 0 1")
}

// 17.2

// Live asks no more than that the code may be: here are such as Verify refuses.
func TestLiveOfWhatIsRefused(t *testing.T) {
	for text, want := range map[string]string{
		"place 44": "0", "num 3; place 255; out 0": "0", "num 3; place 44; num 1; sub 1 2": "1 2 3",
		"num 0; div 0 0": "0 1", "num 0; div 0 0; out 0": "0", "num 4; num 0; num 1; mod 2 1; mod 0 3": "0 1 2 3 4",
		"num most; num 5; add 0 0": "0 2", "num most; num 5; add 0 0; neg 1": "1 3", "num 1; num 9; shlk 0 31; sgn 2; out 3": "0 2 3",
		quotients(50): "0 1 51", quotients(50) + "; out 1": "1", "num 0; place 44; div 0 0; num most; add 3 3; " + quotientsOf(50, 0) + "; sel 2 1 4": "0 1 2 3 4 55",
	} {
		c := coded(text)
		if _, e := verify.Verify(c); e == api.OK || e == api.ErrCode {
			t.Errorf("%s: Verify answers %d", text, e)
		}
		lives(t, text, want)
	}
	lives(t, strings.Repeat("num 1; ", 100)+quotientsOf(100, 3)+"; out 150", "3 150")
}

// quotientsOf writes so many divisions of a register by itself.
func quotientsOf(count, r int) string {
	return strings.TrimSuffix(strings.Repeat(fmt.Sprintf("div %d %d; ", r, r), count), "; ")
}

func TestLive(t *testing.T) {
	for text, want := range map[string]string{
		// All registers.
		"num 1": "0", "place 16; neg 0": "0 1", "num 1; num 2; num 3; med 2 0 1": "0 1 2 3", "num 1; num 2; add 0 1; num 3; mul 2 3; neg 4": "0 1 2 3 4 5", "num 1; neg 0; abs 1; sgn 2; neg 3; neg 4; sgn 5": "0 1 2 3 4 5 6",
		// One alone.
		"num 1; neg 0; abs 1; out 0": "0", "num 1; num 2; num 3; out 1": "1", "num 1; neg 0; num 3": "2", "place 3; place 4; add 0 1; place 7; neg 2; out 3": "3",
		// By one way, two and three.
		"num 1; num 2; num 3; neg 1": "1 3", "num 1; num 2; num 3; sub 2 0": "0 2 3", "num 1; num 2; num 3; num 4; num 5; sel 4 1 2": "1 2 4 5", "num 1; num 2; num 3; num 4; num 5; clamp 0 3 1": "0 1 3 5",
		// One register, read twice or more often by one instruction.
		"num 1; num 2; add 1 1": "1 2", "num 1; num 2; add 0 0": "0 2", "num 1; num 2; num 3; sel 1 1 1": "1 3", "num 1; num 2; num 3; sel 0 2 0": "0 2 3", "num 1; num 2; num 3; med 2 2 1": "1 2 3", "num 1; num 2; num 3; med 1 2 2": "1 2 3",
		// One register, read by several instructions.
		"num 1; neg 0; abs 0; add 1 2": "0 1 2 3", "num 1; num 7; neg 0; abs 0; sgn 0; sel 2 3 4": "0 2 3 4 5", "num 1; neg 0; abs 0; sgn 0; add 1 3": "0 1 3 4", "num 1; num 2; sub 0 1; sub 1 0; mul 2 3; add 4 0": "0 1 2 3 4 5",
		// One that is read by what is read by none, and by the answer.
		"num 1; neg 0; neg 1; abs 0": "0 3", "num 1; neg 0; neg 1; abs 0; add 3 1; out 3": "0 3",
		// Nothing reads them; only such read them; they stand behind Out.
		"num 1; num 2; num 3; num 4; add 1 3": "1 3 4", "num 1; neg 0; neg 1; neg 2; num 5": "4", "num 1; num 5; neg 0; add 2 0; sgn 1; sel 3 2 1; out 4": "1 4", "num 1; num 2; add 0 1; mul 2 0; neg 3; out 2": "0 1 2", "num 1; neg 0; neg 1; neg 2; out 1": "0 1",
		// From afar.
		"num 1; num 2; num 3; num 4; num 5; num 6; neg 0; num 8; add 6 1": "0 1 6 8",
	} {
		lives(t, text, want)
	}
}

// Of each register of a code.
func TestEachOut(t *testing.T) {
	const text = "place 16; num 9; add 0 1; place 10; neg 1; sub 3 0; num 4; sel 2 5 6; mulk 3 5; med 7 3 4; abs 9; num 7"
	for out, row := range [][2]string{
		{"0", "place 16"}, {"1", "num 9"}, {"0 1 2", "place 16; num 9; add 0 1"}, {"3", "place 10"}, {"1 4", "num 9; neg 0"}, {"0 3 5", "place 16; place 10; sub 1 0"}, {"6", "num 4"},
		{"0 1 2 3 5 6 7", "place 16; num 9; add 0 1; place 10; sub 3 0; num 4; sel 2 4 5"}, {"3 8", "place 10; mulk 0 5"},
		{"0 1 2 3 4 5 6 7 9", "place 16; num 9; add 0 1; place 10; neg 1; sub 3 0; num 4; sel 2 5 6; med 7 3 4"}, {"0 1 2 3 4 5 6 7 9 10", "place 16; num 9; add 0 1; place 10; neg 1; sub 3 0; num 4; sel 2 5 6; med 7 3 4; abs 8"},
		{"11", "num 7"},
	} {
		of := text + fmt.Sprint("; out ", out)
		lives(t, of, row[0])
		becomes(t, of, row[1])
	}
}

// 17.1: what is left

// bounds are the constants of the operators, at their edges, and such as registers have as numbers.
var bounds = map[string][][2]int{
	"num": {{0, 0}, {1, 0}, {3, 0}, {-1, 0}, {16, 0}, {least, 0}, {most, 0}}, "in": {{0, 0}, {1, 0}, {2, 0}, {3, 0}, {4, 0}, {5, 0}}, "place": {{0, 0}, {1, 0}, {3, 0}, {15, 0}, {43, 0}},
	"shlk": {{0, 0}, {1, 0}, {3, 0}, {16, 0}, {27, 0}}, "shrk": {{0, 0}, {1, 0}, {3, 0}, {16, 0}, {31, 0}}, "andk": {{0, 0}, {1, 0}, {3, 0}, {255, 0}, {most, 0}}, "mulk": {{-1 << 28, 0}, {-1, 0}, {0, 0}, {1, 0}, {3, 0}, {1<<28 - 1, 0}},
	"muls": {{1, 0}, {1, 1}, {1, 62}, {3, 1}, {3, 3}, {171, 9}, {1431655766, 32}, {1 << 31, 31}, {1 << 31, 62}, {1 << 59, 62}},
}

// constantsOf answers the constants with which an operator is asked.
func constantsOf(name string) [][2]int {
	if list, ok := bounds[name]; ok {
		return list
	}
	return [][2]int{{}}
}

// made answers an instruction of an operator with constants, which reads the first so many of the registers.
func made(name string, by [2]int, registers ...int) api.Inst {
	n := api.Inst{Op: slices.Index(names, name), K: by[0], S: by[1]}
	for i, r := range []*int{&n.A, &n.B, &n.C}[:readsOf(name)] {
		*r = registers[i]
	}
	return n
}

// What an instruction has that is no register stays, wherever it comes to stand.
func TestConstantsStay(t *testing.T) {
	for _, name := range all {
		for _, by := range constantsOf(name) {
			last := func(r int) string { return written(made(name, by, r, r, r)) }
			want := "num 2; " + last(0)
			if readsOf(name) == 0 {
				want = last(0)
			}
			becomes(t, "num 2; "+last(0), want)
			becomes(t, "num 9; num 9; num 9; num 2; "+last(3), want)
			becomes(t, "num 9; neg 0; num 2; abs 1; place 5; "+last(2)+"; sgn 5; out 5", want)
			// Ahead of what reads it.
			becomes(t, "num 9; neg 0; num 2; abs 1; place 5; "+last(2)+"; place 2; sgn 5", want+fmt.Sprint("; sgn ", strings.Count(want, ";")))
		}
	}
}

// gone writes instructions that nothing reads but others of them, or that read what is left.
func gone(count, at int) []string {
	list := []string{"num 9", "place 16", "in x"}[:count]
	if count > 1 && at > 0 {
		list = slices.Concat(list[1:], []string{fmt.Sprint("sgn ", at-1)})
	}
	return list
}

// numbersApart writes three numbers with so many instructions ahead of, between and behind them that nothing reads, and answers also the numbers' registers.
func numbersApart(ahead, first, second, after int) ([]string, [3]int) {
	var list []string
	var at [3]int
	for i, count := range []int{ahead, first, second} {
		list = append(list, gone(count, len(list))...)
		at[i] = len(list)
		list = append(list, fmt.Sprint("num ", []int{5, 3, 2}[i]))
	}
	return append(list, gone(after, len(list))...), at
}

// Of each operator that reads registers: which it reads of three, in any order and also twice, with others gone ahead of, between and behind them.
func TestNewRegisters(t *testing.T) {
	counts := []int{0, 1, 3}
	for _, name := range all {
		if readsOf(name) == 0 {
			continue
		}
		for i := range 81 {
			list, at := numbersApart(counts[i%3], counts[i/3%3], counts[i/9%3], counts[i/27])
			for j := range 27 {
				picks := []int{j % 3, j / 3 % 3, j / 9}[:readsOf(name)]
				if j >= []int{0, 3, 9, 27}[len(picks)] {
					break
				}
				operated(t, name, list, at, picks)
			}
		}
	}
}

// operated asks what is left of a list behind which an operator reads these of its three numbers.
func operated(t *testing.T, name string, list []string, at [3]int, picks []int) {
	t.Helper()
	by := constantsOf(name)[0]
	left := slices.Compact(slices.Sorted(slices.Values(picks)))
	was, is := []int{0, 0, 0}, []int{0, 0, 0}
	for i, pick := range picks {
		was[i], is[i] = at[pick], slices.Index(left, pick)
	}
	var want []string
	for _, pick := range left {
		want = append(want, list[at[pick]])
	}
	text := append(slices.Clone(list), written(made(name, by, was...)))
	becomes(t, strings.Join(text, "; "), strings.Join(append(want, written(made(name, by, is...))), "; "))
}

func TestNewRegistersByHand(t *testing.T) {
	becomes(t, "num 9; place 16; neg 1", "place 16; neg 0")
	becomes(t, "place 16; num 9; neg 0", "place 16; neg 0")
	becomes(t, "num 9; place 16; num 9; place 10; num 9; sub 3 1", "place 16; place 10; sub 1 0")
	becomes(t, "num 9; num 8; place 16; num 9; place 10; place 3; num 6; med 5 2 4", "place 16; place 10; place 3; med 2 0 1")
	becomes(t, "num 9; place 16; place 10; num 8; num 7; place 3; sel 1 2 5", "place 16; place 10; place 3; sel 0 1 2")
	becomes(t, "num 9; place 16; num 9; add 1 1; neg 0; mul 3 1; abs 4; sub 5 3", "place 16; add 0 0; mul 1 0; sub 2 1")
	// Those that are read far behind keep what stands between.
	becomes(t, "place 1; num 3; place 2; num 4; add 0 2; num 5; mulk 4 3; num 6; sub 6 0; num 7; clamp 8 2 4; neg 9; out 10", "place 1; place 2; add 0 1; mulk 2 3; sub 3 0; clamp 4 1 2")
	becomesFor(t, sound, "in lo; place 3; in hi; place 4; max 1 3; min 0 2", "in lo; in hi; min 0 1")
	becomesFor(t, api.Kind{Form: api.Image, Depth: 16}, "place 43; in c; in y; add 1 2; out 0", "place 43")
}

// Equal instructions all stay, if they are read: this pass takes away what is never read alone.
func TestStays(t *testing.T) {
	for _, text := range []string{
		"num 1", "in y", "place 43", "place 16; place 16; sub 0 1", "place 16; neg 0; neg 0; sub 1 2", "num 0; num 0; add 0 1", "place 16; num 0; mul 0 1", "num 4; num 2; div 0 1; sub 2 2", "place 16; num 1; sel 1 0 0",
		"place 16; place 10; add 0 1; shrk 2 1", "place 10; place 16; sub 1 0", "num 3; place 1; lt 1 0; place 2; sel 2 3 1",
	} {
		stays(t, text)
	}
}

// Codes of one instruction, and of the greatest length.

func TestOneInstruction(t *testing.T) {
	for _, name := range []string{"num", "in", "place"} {
		for _, by := range bounds[name] {
			text := written(made(name, by))
			stays(t, text)
			lives(t, text, "0")
		}
	}
}

// rising writes the numbers from one to another.
func rising(from, to int) string {
	var list []string
	for i := from; i <= to; i++ {
		list = append(list, fmt.Sprint(i))
	}
	return strings.Join(list, " ")
}

// repeated writes instructions so often, each with the number of its register less so many in the place of @1, @2, @3.
func repeated(start, text string, count int) string {
	for range count {
		own := strings.Count(start, ";") + 1
		start += "; " + strings.NewReplacer("@1", fmt.Sprint(own-1), "@2", fmt.Sprint(own-2), "@3", fmt.Sprint(own-3)).Replace(text)
	}
	return start
}

func TestGreatestLength(t *testing.T) {
	chain := repeated("place 16", "neg @1", 199)
	stays(t, chain)
	lives(t, chain, rising(0, 199))
	for _, out := range []int{0, 1, 99, 198} {
		text := chain + fmt.Sprint("; out ", out)
		lives(t, text, rising(0, out))
		becomes(t, text, repeated("place 16", "neg @1", out))
	}
	three := repeated("place 1; place 2; place 3", "med @3 @1 @2", 197)
	stays(t, three)
	lives(t, three, rising(0, 199))
	// Each second one of two chains.
	twin := repeated("place 1; place 2", "neg @2", 198)
	becomes(t, twin, repeated("place 2", "neg @1", 99))
	becomes(t, twin+"; out 198", repeated("place 1", "neg @1", 99))
	// The numbers alone.
	flat := repeated("num 0", "num @1", 199)
	for _, out := range []int{0, 1, 100, 199} {
		text := flat + fmt.Sprint("; out ", out)
		lives(t, text, fmt.Sprint(out))
		becomes(t, text, fmt.Sprintf("num %d", max(out-1, 0)))
	}
	becomes(t, repeated("num 0", "num @1", 198)+"; sub 0 198", "num 0; num 197; sub 0 1")
	becomes(t, repeated("num 0", "num @1", 198)+"; sel 198 0 197", "num 0; num 196; num 197; sel 2 0 1")
	// The answer hangs on each register by very many ways.
	ways := repeated("place 16; sgn 0", "xor @1 @2", 198)
	stays(t, ways)
	lives(t, ways, rising(0, 199))
	double := repeated("place 16; sgn 0", "sel @1 @1 @1", 198)
	stays(t, double)
}

// 17.3: what stands behind the answer

// Whatever is put behind the answer's instruction is gone: each operator, which reads what is left, the answer, or another such.
func TestBehindTheAnswer(t *testing.T) {
	const front = "num 5; num 9; num 2; sub 0 2; num 3"
	const want = "num 5; num 2; sub 0 1"
	becomes(t, front+"; out 3", want)
	asked := map[string]int{}
	for _, name := range all {
		for _, by := range constantsOf(name) {
			for _, list := range [][]int{{3, 3, 3}, {0, 2, 3}, {4, 4, 4}, {1, 0, 2}, {2, 3, 4}} {
				n := written(made(name, by, list...))
				text := front + "; " + n
				if _, e := verify.Verify(coded(text)); e != api.OK {
					continue
				}
				becomes(t, text+"; out 3", want)
				becomes(t, text+"; "+n+"; sgn 5; max 6 7; med 0 8 3; out 3", want)
				asked[name]++
			}
		}
	}
	for _, name := range all {
		if asked[name] < 3 {
			t.Errorf("%s is put behind the answer %d times", name, asked[name])
		}
	}
	// Also as many as may be, and as dear ones as may be.
	becomes(t, front+strings.Repeat("; neg 3", 195)+"; out 3", want)
	becomes(t, front+strings.Repeat("; mod 3 0", 32)+"; num 1; num 2; num 3; out 3", want)
	// What is harmful there is refused ahead of that.
	refused(t, coded(front+"; place 44; out 3"), api.ErrAhead)
	refused(t, coded(front+"; mod 0 1; sub 0 0; div 0 6; out 3"), api.ErrDivZero)
	refused(t, coded(front+"; mulk 3 most; out 3"), api.ErrOverflow)
	refused(t, coded(front+strings.Repeat("; mod 3 0", 33)+"; out 3"), api.ErrCost)
	refused(t, coded(front+"; neg 5; out 3"), api.ErrCode)
}

// 17.3: a pass

const median = "med(p(-1,0),p(0,-1),p(-1,0)+p(0,-1)-p(-1,-1))"

// programs are ordinary ones, of images, of sounds and of both.
var programs = []string{
	"1", "x", "y", "c", "lo", "hi", "mid", "p(-1,0)", "q(1,-1)", "q(3,1,1)", "p(-16)", "p(-1,0)+1", "(p(-1,0)+p(0,-1))/2", median,
	"p(-1,-1)>=max(p(-1,0),p(0,-1))?min(p(-1,0),p(0,-1)):p(-1,-1)<=min(p(0,-1),p(-1,0))?max(p(0,-1),p(-1,0)):p(-1,0)+p(0,-1)-p(-1,-1)", "1/(abs(p(-1,0)-p(0,-1))+1)", "(x&255)*(x&255)", "2*p(-1)-p(-2)", "clamp(2*p(-1)-p(-2),lo,hi)", "let a=hi;a*a", "x?1:y?2:3", "c?q(1,0,0)+p(-1,0)-q(1,-1,0):mid",
	"abs(p(-1,0)-p(0,-1))<2?0:abs(p(-1,0)-p(0,-1))<8?1:abs(p(-1,0)-p(0,-1))<32?2:3", "-x", "--x-(--x)", "sgn(-x)<<3>>1", "1<<2<3|4&5^6", "let a=1;let b=a;let c2=a+b;(c2%3==0)!=(a>b)", "min(x,max(y,-c))+min(max(-c,y),x)", "let unused=q(3,-4);2147483647",
	"let a=p(-1);let b=a*3;let unused=b/7;let d=a+1;d", "let a=p(-1);let b=p(-2)-a;let d=b*b;7", "let a=p(-1);let b=p(-2);let s=a+b;let d=a-b;let u=s*2;u/3", "let a=p(-1);let b=p(-2);let s=a+b;let d=a-b;let u=s*2;d/3",
	"(p(-1)-p(-2))/3+(p(-1)-p(-2))%5*(p(-1)-p(-2)>>1)-(p(-1)-p(-2)<<2)&7", "hi-lo+1-(hi-lo+1)", "(p(-1)+p(-2))*(p(-2)+p(-1)&255)", "p(-1,0)+p(0,-1)-(p(0,-1)+p(-1,0))", "let a=p(-1);let b=p(-1);a-b",
	"clamp(p(-1),lo,hi)+clamp(p(-1),lo,hi)-clamp(p(-1),hi,lo)", "(x?p(-1):p(-2))-(x?p(-1):p(-2))", "p(-1)*1+0*p(-2)", "(p(-1)+hi)*8%16",
	"0" + strings.Repeat("+1%2", 22), strings.Repeat("-", 23) + "1", "1" + strings.Repeat("%7", 28), "1" + strings.Repeat("/7", 39),
}

// lowered answers a program's code; false: it is none of the kind's.
func lowered(t *testing.T, k api.Kind, text string) (api.Code, bool) {
	t.Helper()
	tree, e := parse.Parse(text)
	if e != api.OK {
		t.Fatalf("Parse(%q): %d", text, e)
	}
	c, e := lower.Lower(k, tree)
	return c, e == api.OK
}

// earlier answers a code as each of the passes ahead of this one leaves it, and as all of them do, one behind the other.
func earlier(t *testing.T, c api.Code) []api.Code {
	t.Helper()
	var list []api.Code
	row := c
	for _, pass := range []func(api.Code) (api.Code, api.Errno){fold.Fold, share.Share, reduce.Reduce} {
		d, e := pass(c)
		f := api.OK
		if row, f = pass(row); e != api.OK || f != api.OK {
			t.Fatalf("%s: %d, %d", shown(c), e, f)
		}
		list = append(list, d, row)
	}
	return list
}

// Of a program nothing goes but what is bound to names that nothing uses; of what the passes ahead leave there is more.
func TestPrograms(t *testing.T) {
	taken, changed, later := 0, 0, 0
	kinds(func(k api.Kind) {
		for _, text := range programs {
			c, ok := lowered(t, k, text)
			if !ok {
				continue
			}
			d, e := modelled(t, c, seen{})
			if e != api.OK {
				t.Errorf("%q for %v: %d", text, k, e)
			}
			if taken++; !code.Same(c, d) {
				changed++
			}
			if !strings.Contains(text, "let ") && !code.Same(c, d) {
				t.Errorf("%q for %v: %s becomes %s", text, k, shown(c), shown(d))
			}
			for _, c := range earlier(t, c) {
				d, e := modelled(t, c, seen{})
				if e != api.OK {
					t.Errorf("%q for %v: %d", text, k, e)
				}
				if !code.Same(c, d) {
					later++
				}
			}
		}
	})
	if taken < 1000 || changed < 60 || later < 2000 {
		t.Errorf("%d programs are taken, %d are changed, behind other passes %d", taken, changed, later)
	}
}

// The document's first and sixth example: four steps, and a division that has become a product.
func TestBehindTheOtherPasses(t *testing.T) {
	for text, want := range map[string]string{
		"(p(-1,0)+p(0,-1))/2": "place 16; place 10; add 0 1; shrk 2 1", "p(-1,0)/3": "place 16; muls 0 171 9", "p(-1,0)-p(-1,0)": "place 16; sub 0 0", "hi-lo": "num 255", "p(-1,0)*1+0": "place 16", "let a=p(0,-1);(a+p(-1,0))*(p(-1,0)+a)": "place 10; place 16; add 0 1; mul 2 2",
	} {
		c, ok := lowered(t, image, text)
		list := earlier(t, c)
		d, e := modelled(t, list[len(list)-1], seen{})
		if !ok || e != api.OK || !code.Same(d, coded(want)) {
			t.Errorf("%q becomes %s, %d, not %s", text, shown(d), e, want)
		}
	}
}

// every goes over all codes of so many instructions, each of which is a place, or reads one, two or three registers ahead, whichever.
func every(list []api.Inst, count int, do func([]api.Inst)) {
	if len(list) == count {
		do(list)
		return
	}
	i := len(list)
	list = slices.Clip(list)
	every(append(list, api.Inst{Op: api.OpPlace, K: i}), count, do)
	for a := range i {
		every(append(list, api.Inst{Op: api.OpNeg, A: a}), count, do)
		for b := range i {
			every(append(list, api.Inst{Op: api.OpSub, A: a, B: b}), count, do)
			for c := range i {
				every(append(list, api.Inst{Op: api.OpSel, A: a, B: b, C: c}), count, do)
			}
		}
	}
}

func TestEveryShortCode(t *testing.T) {
	asked := 0
	for count := 1; count <= 4; count++ {
		every(nil, count, func(list []api.Inst) {
			for out := range list {
				c := api.Code{Kind: image, Insts: list, Out: out}
				if _, e := modelled(t, c, seen{}); e != api.OK {
					t.Errorf("%s: %d", shown(c), e)
				}
				asked++
			}
		})
	}
	if asked != 1+2*4+3*60+4*2400 {
		t.Errorf("%d codes are asked", asked)
	}
}

// sketch answers a code of a kind that may be; places are below a number. Of a hundred instructions that would be refused so many are kept.
func sketch(next func(int) int, k api.Kind, count, places, kept int) api.Code {
	c := api.Code{Kind: k}
	near := next(3)
	for i := 0; i < count && code.Cost(c) < 194; i++ {
		c.Insts = append(c.Insts, drawn(next, i, places, near))
		if _, e := verify.Verify(c); e != api.OK && next(100) >= kept {
			c.Insts[i] = api.Inst{Op: api.OpNum, K: next(4) - 1}
		}
	}
	c.Out = next(len(c.Insts))
	if next(2) == 0 {
		c.Out = len(c.Insts) - 1
	}
	// Answers that read nothing are soon told: they are drawn less often.
	for tries := 0; tries < 4 && len(argsOf(c.Insts[c.Out])) == 0; tries++ {
		c.Out = next(len(c.Insts))
	}
	return c
}

// drawn answers an instruction that reads registers ahead of the number i: any of them, or more often near ones.
func drawn(next func(int) int, i, places, near int) api.Inst {
	name := all[next(len(all))]
	if i == 0 || next(4) == 0 {
		name = []string{"num", "in", "place", "place", "place"}[next(5)]
	}
	n := api.Inst{Op: slices.Index(names, name)}
	for _, r := range []*int{&n.A, &n.B, &n.C}[:readsOf(name)] {
		if *r = next(i); next(3) < near {
			*r = i - 1 - next(min(i, 4))
		}
	}
	switch name {
	case "num":
		n.K = []int{0, 1, -1, 2, 5, next(100) - 50}[next(6)]
	case "in":
		n.K = next(6)
	case "place":
		n.K = next(places)
	case "shlk", "shrk", "mulk", "andk", "muls":
		by := bounds[name][next(len(bounds[name]))]
		n.K, n.S = by[0], by[1]
	}
	return n
}

// allSeen asks that every operator stayed and went, that each of the registers that it reads was exchanged, and that two of them were by different distances.
func allSeen(t *testing.T, hits seen) {
	t.Helper()
	for _, name := range all {
		if hits[name+" stayed"] < 20 || hits[name+" went"] < 20 || readsOf(name) > 1 && hits[name+" parted"] < 20 {
			t.Errorf("%s stayed %d times, went %d times, read what had stood further apart %d times", name, hits[name+" stayed"], hits[name+" went"], hits[name+" parted"])
		}
		for part := range readsOf(name) {
			if hits[fmt.Sprint(name, " exchanged ", part)] < 20 {
				t.Errorf("%s: the register %d was exchanged %d times", name, part, hits[fmt.Sprint(name, " exchanged ", part)])
			}
		}
	}
}

func TestCodesAtRandom(t *testing.T) {
	next := draw(17)
	got := map[api.Errno]int{}
	hits := seen{}
	changed, stayed, single := 0, 0, 0
	for i := range 12000 {
		k := api.Kind{Form: next(2), Depth: 1 + next(16)}
		limit := kind.Count(k)
		if next(10) == 0 {
			limit = 60
		}
		count, kept := 1+next(18), 25
		if i%60 == 0 {
			count, kept = 100+next(101), 0
		}
		c := sketch(next, k, count, limit, kept)
		d, e := modelled(t, c, hits)
		if got[e]++; e != api.OK {
			continue
		}
		if code.Same(c, d) {
			stayed++
		} else {
			changed++
		}
		if len(d.Insts) == 1 {
			single++
		}
	}
	for e, least := range map[api.Errno]int{api.OK: 6000, api.ErrAhead: 20, api.ErrDivZero: 100, api.ErrOverflow: 100} {
		if got[e] < least {
			t.Errorf("the answer %d came %d times", e, got[e])
		}
	}
	if changed < 3000 || stayed < 500 || single < 500 || single > 4000 {
		t.Errorf("%d codes are changed, %d stay, of %d one instruction is left", changed, stayed, single)
	}
	allSeen(t, hits)
}

// On every window of three places and a plane, of the least depths.
func TestAllWindows(t *testing.T) {
	next := draw(3)
	for _, k := range []api.Kind{{Form: api.Image, Depth: 1}, {Form: api.Sound, Depth: 1}, {Form: api.Image, Depth: 2}, {Form: api.Sound, Depth: 2}} {
		low, size := kind.Low(k), kind.High(k)-kind.Low(k)+1
		changed := 0
		for range 150 {
			c := sketch(next, k, 4+next(14), 3, 0)
			d, e := modelled(t, c, seen{})
			if e != api.OK {
				t.Errorf("%s: %d", shown(c), e)
				continue
			}
			if !code.Same(c, d) {
				changed++
			}
			w := windowOf(k, uint(next(20)))
			for i := range size * size * size * 4 {
				w.P[0], w.P[1], w.P[2], w.C = low+i%size, low+i/size%size, low+i/size/size%size, i/size/size/size
				answersAlike(t, c, d, modelLive(c), w)
			}
		}
		if changed < 100 {
			t.Errorf("%d codes of %v are changed", changed, k)
		}
	}
}

func TestOneThingChanged(t *testing.T) {
	next := draw(5)
	got := map[api.Errno]int{}
	for range 100 {
		k := api.Kind{Form: next(2), Depth: 1 + next(16)}
		c := sketch(next, k, 1+next(16), kind.Count(k), 0)
		fields := []*int{&c.Out, &c.Kind.Form, &c.Kind.Depth}
		for i := range c.Insts {
			n := &c.Insts[i]
			fields = append(fields, &n.Op, &n.A, &n.B, &n.C, &n.K, &n.S)
		}
		for _, field := range fields {
			old := *field
			for _, to := range append([]int{old - 1, old + 1, -1, 0, 1, 2, 5, 6, 30, 31, 32, 43, 44, 62, 63, 255, 256, len(c.Insts) - 1, len(c.Insts)}, far...) {
				*field = to
				_, e := modelled(t, c, seen{})
				got[e]++
			}
			*field = old
		}
	}
	for e, least := range map[api.Errno]int{api.OK: 1000, api.ErrCode: 5000, api.ErrAhead: 20, api.ErrDivZero: 20, api.ErrOverflow: 50} {
		if got[e] < least {
			t.Errorf("the answer %d came %d times", e, got[e])
		}
	}
}

// P1

// Codes of any numbers: whatever they are, there is an answer, and it is refused just where Verify refuses it.
func TestWildCodes(t *testing.T) {
	next := draw(7)
	number := func() int {
		switch next(4) {
		case 0, 1:
			return 0
		case 2:
			return next(8) - 1
		}
		return append([]int{least, most, 1 << 31, 1 << 62, 255, 256}, far...)[next(6+len(far))]
	}
	for range 30000 {
		c := api.Code{Kind: api.Kind{Form: next(3), Depth: next(18)}, Out: number()}
		for range next(6) {
			c.Insts = append(c.Insts, api.Inst{Op: next(40) - 2, A: number(), B: number(), C: number(), K: number(), S: number()})
		}
		modelled(t, c, seen{})
	}
}

// examples are codes that are taken: such as stay as they were, and such as don't.
var examples = []string{
	"num 1", "place 16; neg 0", "place 16; place 10; add 0 1; shrk 2 1", "place 1; place 2; place 3; med 0 1 2", repeated("place 16", "neg @1", 199),
	"num 2; num 3; mul 0 0", "in hi; in hi", "place 16; num 9; place 10; add 0 1; sub 2 0; neg 3; out 4", "place 16; place 16; sub 1 0; sub 0 1; out 0", quotients(49), repeated("num 0", "num @1", 199),
}

func TestCodesAreNewMemory(t *testing.T) {
	var last []api.Code
	for _, text := range examples {
		c, stands := roomy(coded(text))
		one, _ := prune.Prune(c)
		two, _ := prune.Prune(c)
		kept := api.Code{Kind: two.Kind, Insts: slices.Clone(two.Insts), Out: two.Out}
		if len(kept.Insts) == 0 || !code.Same(one, two) {
			t.Errorf("%s: %s, then %s", text, shown(one), shown(two))
		}
		list := one.Insts[:cap(one.Insts)]
		for i := range list {
			list[i] = api.Inst{Op: -99, A: -98}
		}
		if !code.Same(two, kept) {
			t.Errorf("%s: two answers share memory", text)
		}
		if !stands() {
			t.Errorf("%s: an answer shares memory with the code", text)
		}
		three, e := prune.Prune(c)
		if e != api.OK || !code.Same(three, two) {
			t.Errorf("%s: what was written into an answer is seen: %s, %d", text, shown(three), e)
		}
		for i := range c.Insts {
			c.Insts[i] = api.Inst{Op: -1, A: -1, K: -1}
		}
		if !code.Same(three, kept) {
			t.Errorf("%s: what was written into the code is seen", text)
		}
		last = append(last, three)
	}
	// Answers to other codes are left alone too.
	for i, text := range examples {
		if want, _ := model(coded(text), seen{}); !code.Same(last[i], want) {
			t.Errorf("%s: the answer has become %s", text, shown(last[i]))
		}
	}
}

func TestListsAreNewMemory(t *testing.T) {
	var last [][]int
	for _, text := range examples {
		c, stands := roomy(coded(text))
		one, two := prune.Live(c), prune.Live(c)
		room := one[:cap(one)]
		for i := range room {
			room[i] = -99
		}
		if !slices.Equal(two, modelLive(c)) {
			t.Errorf("%s: two answers share memory: %v", text, two)
		}
		three := prune.Live(c)
		if !slices.Equal(three, two) {
			t.Errorf("%s: what was written into an answer is seen: %v", text, three)
		}
		// The list that Prune goes by is not the one that was handed out.
		if d, e := prune.Prune(c); e != api.OK || len(d.Insts) != len(two) {
			t.Errorf("%s: %s, %d", text, shown(d), e)
		}
		if !stands() {
			t.Errorf("%s: the code is changed", text)
		}
		for i := range c.Insts {
			c.Insts[i] = api.Inst{Op: -1, A: -1, K: -1}
		}
		last = append(last, three)
	}
	for i, text := range examples {
		if want := modelLive(coded(text)); !slices.Equal(last[i], want) {
			t.Errorf("%s: the answer has become %v, not %v", text, last[i], want)
		}
	}
}

// What a call answers hangs on its code alone: not on calls ahead of it, refused ones among them, nor on the list's room.
func TestOneCodeOneAnswer(t *testing.T) {
	next := draw(23)
	for i := range 200 {
		c := sketch(next, image, 1+next(12), 44+i%2*10, 10)
		want, f := prune.Prune(c)
		live := prune.Live(c)
		for range 3 {
			for _, text := range append([]string{"place 44", "num 0; div 0 0", quotients(50), "num most; add 0 0"}, examples...) {
				prune.Prune(coded(text))
				prune.Live(coded(text))
			}
			prune.Prune(codedFor(sound, "in lo; in mid; in y; add 1 2; in lo"))
			prune.Live(api.Code{})
			d := c
			d.Insts = slices.Grow(slices.Clone(c.Insts), 50)
			if got, e := prune.Prune(d); e != f || !code.Same(got, want) {
				t.Errorf("Prune(%s): %s, %d, not %s, %d", shown(c), shown(got), e, shown(want), f)
			}
			if got := prune.Live(d); !slices.Equal(got, live) {
				t.Errorf("Live(%s): %v, not %v", shown(c), got, live)
			}
		}
	}
}

// The tests' own windows and operators are those of the layers below.
func TestTheTestsModel(t *testing.T) {
	kinds(func(k api.Kind) {
		for seed := range uint(50) {
			if w := windowOf(k, seed); kind.Fits(k, w) != api.OK {
				t.Errorf("%v: %v doesn't fit", k, w)
			}
		}
	})
	for op, name := range names {
		want := -1
		if slices.Contains(all, name) {
			want = readsOf(name)
		}
		if arith.Arity(op) != want {
			t.Errorf("%s reads %d registers", name, arith.Arity(op))
		}
	}
	if len(all) != 32 || names[api.OpMulS] != "muls" || names[api.OpAdd] != "add" || names[api.OpClamp] != "clamp" || names[api.OpPlace] != "place" {
		t.Errorf("the operators are %v", names)
	}
}
