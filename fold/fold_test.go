package fold_test

import (
	"fmt"
	"math"
	"slices"
	"strings"
	"testing"

	"damask/api"
	"damask/arith"
	"damask/code"
	"damask/fold"
	"damask/kind"
	"damask/lower"
	"damask/parse"
	"damask/verify"
)

// far are numbers far from all that may stand in a code.
var far = []int{math.MinInt, math.MinInt + 1, -1 << 62, -1 << 32, least - 1, 1 << 32, 1<<32 + 1, 1<<62 + 1, math.MaxInt - 1, math.MaxInt}

// The chapter's examples

func TestExamples(t *testing.T) {
	becomes(t, "num 2; num 3; mul 0 1", "num 2; num 3; num 6")
	becomes(t, "in hi; in mid; sub 0 1", "num 255; num 128; num 127")
	becomes(t, "place 16; num 0; add 0 1; neg 2", "place 16; num 0; add 0 1; neg 0")
	becomes(t, "place 16; num 0; add 0 1; neg 2; out 2", "place 16; num 0; add 0 1; neg 0; out 0")
	becomes(t, "place 16; sub 0 0; eq 0 0; sel 2 0 1; out 3", "place 16; num 0; num 1; sel 2 0 1; out 0")
}

// 14.1: errors

// quotients writes two ones and so many divisions of the one by the other: 4 each, and 2.
func quotients(count int) string { return "num 1; num 1" + strings.Repeat("; div 0 1", count) }

func TestErrCode(t *testing.T) {
	refused(t, api.Code{}, api.ErrCode)
	refused(t, api.Code{Kind: image}, api.ErrCode)
	refused(t, api.Code{Kind: image, Insts: []api.Inst{}}, api.ErrCode)
	for _, k := range []api.Kind{{Form: 2, Depth: 8}, {Form: -1, Depth: 8}, {Form: 0, Depth: 0}, {Form: 1, Depth: 17}, {Form: 1, Depth: -1}, {Form: 1 << 32, Depth: 8}} {
		for _, text := range []string{"num 1", "in lo", "place 0", "num 2; num 3; mul 0 1", "place 44", "num 0; div 0 0"} {
			refused(t, codedFor(k, text), api.ErrCode)
		}
	}
	for _, text := range []string{
		"neg 0", "num 1; neg 1", "num 1; neg 2; num 1", "num 1; add 0 1", "num 1; add 1 0", "num 1; sel 0 0 1", "num 1; neg -1", "use 0 0",
		"num 2147483648", "num -2147483649", "in 6", "in -1", "place 256", "place -1", "num 1; shlk 0 32", "num 1; shrk 0 -1", "num 1; andk 0 -1", "num 1; mulk 0 2147483648", "num 1; muls 0 0 0", "num 1; muls 0 1 63",
		"num 1; out 1", "num 1; num 1; out 2", strings.Repeat("num 0; ", 200) + "num 0",
	} {
		refused(t, coded(text), api.ErrCode)
	}
	refused(t, api.Code{Kind: image, Insts: []api.Inst{{Op: api.OpNum}}, Out: -1}, api.ErrCode)
	for _, op := range append([]int{-1, 0, api.OpUse, api.OpMulS + 1, 1<<32 + api.OpNum}, far...) {
		refused(t, api.Code{Kind: image, Insts: []api.Inst{{Op: op}}}, api.ErrCode)
	}
	// A field that the operator hasn't isn't 0.
	for _, n := range []api.Inst{{Op: api.OpNum, A: 1}, {Op: api.OpNum, S: 1}, {Op: api.OpIn, K: api.InLo, C: 1}, {Op: api.OpPlace, B: -1}, {Op: api.OpNeg, B: 1}, {Op: api.OpAdd, C: 1}, {Op: api.OpAdd, K: 1}, {Op: api.OpSel, S: 1}, {Op: api.OpMulK, S: 1}} {
		refused(t, api.Code{Kind: image, Insts: []api.Inst{{Op: api.OpNum}, {Op: api.OpNum}, n}}, api.ErrCode)
	}
}

func TestErrAhead(t *testing.T) {
	for _, text := range []string{"place 44", "place 255", "num 1; place 44; out 0", "num 0; div 0 0; place 44", "place 44; num 0; mul 0 1", "place 44; mulk 0 0", quotients(50) + "; place 44"} {
		refused(t, coded(text), api.ErrAhead)
	}
	refused(t, codedFor(sound, "place 31"), api.ErrAhead)
	refused(t, codedFor(sound, "place 43; sub 0 0"), api.ErrAhead)
}

// The error is that of the code as it was, whatever would have been reckoned ahead of it.
func TestErrDivZero(t *testing.T) {
	for _, text := range []string{
		"num 0; div 0 0", "num 0; mod 0 0", "num 1; in lo; div 0 1", "place 16; num 1; div 1 0", "place 16; mod 0 0", "num 1; num 0; div 0 1; out 0",
		"place 16; sub 0 0; num 1; add 1 2; div 2 3", "place 16; eq 0 0; div 0 1", "place 16; num 0; mul 0 1; num 3; div 3 2",
		"num 0; div 0 0; num most; add 2 2", "num 0; mod 0 0; " + strings.Repeat("num 0; ", 198-2) + "mod 0 0",
	} {
		refused(t, coded(text), api.ErrDivZero)
	}
	refused(t, codedFor(sound, "num 1; in mid; mod 0 1"), api.ErrDivZero)
}

func TestErrOverflow(t *testing.T) {
	for _, text := range []string{
		"num most; num 1; add 0 1", "num least; neg 0", "num least; abs 0", "num 1; num 32; shl 0 1", "num 1; num -1; shr 0 1", "num 1; shlk 0 31", "num 2; muls 0 4611686018427387904 62", "num least; num -1; div 0 1",
		"place 16; shlk 0 24", "place 16; sub 0 0; num most; add 1 2", "place 16; eq 0 0; num most; add 1 2", "num 1; shlk 0 31; num 0; div 2 2", "place 16; num 16; shl 1 0",
	} {
		refused(t, coded(text), api.ErrOverflow)
	}
	refused(t, codedFor(sound, "in x; mul 0 0"), api.ErrOverflow)
}

// A code that would cost less behind the pass is refused all the same.
func TestErrCost(t *testing.T) {
	refused(t, coded(quotients(50)), api.ErrCost)
	refused(t, coded("num 1; num 1"+strings.Repeat("; mod 0 1", 34)), api.ErrCost)
	refused(t, coded(quotients(49)+"; num 1; num 1; num 1"), api.ErrCost)
	becomes(t, quotients(49)+"; num 1; num 1", strings.TrimSuffix(strings.Repeat("num 1; ", 53), "; "))
	becomes(t, "num 1; num 1"+strings.Repeat("; mod 0 1", 33), "num 1; num 1"+strings.Repeat("; num 0", 33))
}

// 14.1, 1: inputs

func TestInputs(t *testing.T) {
	for _, c := range []struct {
		k             api.Kind
		low, high, at int
	}{
		{api.Kind{Form: api.Image, Depth: 1}, 0, 1, 1}, {api.Kind{Form: api.Image, Depth: 2}, 0, 3, 2}, {api.Kind{Form: api.Image, Depth: 8}, 0, 255, 128}, {api.Kind{Form: api.Image, Depth: 9}, 0, 511, 256}, {api.Kind{Form: api.Image, Depth: 16}, 0, 65535, 32768},
		{api.Kind{Form: api.Sound, Depth: 1}, -1, 0, 0}, {api.Kind{Form: api.Sound, Depth: 2}, -2, 1, 0}, {api.Kind{Form: api.Sound, Depth: 8}, -128, 127, 0}, {api.Kind{Form: api.Sound, Depth: 9}, -256, 255, 0}, {api.Kind{Form: api.Sound, Depth: 16}, -32768, 32767, 0},
	} {
		becomesFor(t, c.k, "in lo", fmt.Sprint("num ", c.low))
		becomesFor(t, c.k, "in hi", fmt.Sprint("num ", c.high))
		becomesFor(t, c.k, "in mid", fmt.Sprint("num ", c.at))
		becomesFor(t, c.k, "in mid; in x; in hi; in y; in lo; in c; out 2", fmt.Sprintf("num %d; in x; num %d; in y; num %d; in c; out 2", c.at, c.high, c.low))
		becomesFor(t, c.k, "in lo; in hi; in mid; med 2 0 1; sub 1 0", fmt.Sprintf("num %d; num %d; num %d; num %d; num %d", c.low, c.high, c.at, c.at, c.high-c.low))
	}
	kinds(func(k api.Kind) {
		for n := range 6 {
			d, e := modelled(t, codedFor(k, fmt.Sprint("in ", n)), applied{})
			if want := n >= api.InLo; e != api.OK || (d.Insts[0].Op == api.OpNum) != want {
				t.Errorf("%v: the input %d becomes %v, %d", k, n, d.Insts, e)
			}
		}
		for _, text := range []string{"in x", "in y", "in c", "place 0", "num 7", "in y; in x; add 0 1; in c; mul 0 3; xor 2 4", "in c; in y; sel 1 0 1"} {
			becomesFor(t, k, text, text)
		}
	})
	// What a bound has become, is a number for what reads it.
	becomes(t, "place 16; in lo; add 0 1", "place 16; num 0; add 0 1; out 0")
	becomesFor(t, api.Kind{Form: api.Image, Depth: 1}, "place 16; in hi; mul 1 0", "place 16; num 1; mul 1 0; out 0")
	becomesFor(t, api.Kind{Form: api.Sound, Depth: 1}, "place 16; in lo; and 1 0", "place 16; num -1; and 1 0; out 0")
	becomesFor(t, sound, "place 16; in mid; mul 1 0; sel 2 0 1", "place 16; num 0; num 0; sel 2 0 1; out 1")
	// A sound's y is always 0, but it stays.
	becomesFor(t, sound, "place 16; in y; add 0 1; mul 0 1; neg 1; shl 0 1", "place 16; in y; add 0 1; mul 0 1; neg 1; shl 0 1")
}

// 14.1, 2: numbers alone

// known is an operator of numbers alone, and what it comes to.
type known struct {
	name, args, constants string
	want                  int
}

var knowns = []known{
	{"neg", "5", "", -5}, {"neg", "0", "", 0}, {"neg", "most", "", -most}, {"neg", "-2147483647", "", most},
	{"abs", "-5", "", 5}, {"abs", "5", "", 5}, {"abs", "0", "", 0}, {"abs", "-2147483647", "", most}, {"abs", "most", "", most},
	{"sgn", "least", "", -1}, {"sgn", "-1", "", -1}, {"sgn", "0", "", 0}, {"sgn", "1", "", 1}, {"sgn", "most", "", 1},
	{"add", "2 3", "", 5}, {"add", "least most", "", -1}, {"add", "most 0", "", most}, {"add", "least 0", "", least}, {"add", "1 2147483646", "", most},
	{"sub", "2 3", "", -1}, {"sub", "-1 least", "", most}, {"sub", "least 0", "", least}, {"sub", "most most", "", 0}, {"sub", "-1 most", "", least},
	{"mul", "2 3", "", 6}, {"mul", "65536 -32768", "", least}, {"mul", "-1 most", "", -most}, {"mul", "least 1", "", least}, {"mul", "0 least", "", 0},
	{"div", "-7 2", "", -3}, {"div", "7 -2", "", -3}, {"div", "least 1", "", least}, {"div", "least least", "", 1}, {"div", "most -1", "", -most}, {"div", "0 5", "", 0},
	{"mod", "-7 2", "", -1}, {"mod", "7 -2", "", 1}, {"mod", "least -1", "", 0}, {"mod", "most least", "", most}, {"mod", "least most", "", -1},
	{"shl", "-1 31", "", least}, {"shl", "3 4", "", 48}, {"shl", "0 31", "", 0}, {"shl", "5 0", "", 5}, {"shl", "1 30", "", 1 << 30},
	{"shr", "least 31", "", -1}, {"shr", "-7 1", "", -4}, {"shr", "most 31", "", 0}, {"shr", "48 4", "", 3}, {"shr", "-1 0", "", -1},
	{"and", "-2 7", "", 6}, {"and", "least -1", "", least}, {"and", "least most", "", 0}, {"and", "12 10", "", 8},
	{"or", "12 10", "", 14}, {"or", "least most", "", -1}, {"or", "-8 3", "", -5}, {"or", "0 0", "", 0},
	{"xor", "-1 5", "", -6}, {"xor", "12 10", "", 6}, {"xor", "least most", "", -1}, {"xor", "least least", "", 0},
	{"lt", "1 2", "", 1}, {"lt", "2 2", "", 0}, {"lt", "3 2", "", 0}, {"lt", "least most", "", 1},
	{"le", "1 2", "", 1}, {"le", "2 2", "", 1}, {"le", "3 2", "", 0}, {"le", "most least", "", 0},
	{"gt", "1 2", "", 0}, {"gt", "2 2", "", 0}, {"gt", "3 2", "", 1}, {"gt", "most least", "", 1},
	{"ge", "1 2", "", 0}, {"ge", "2 2", "", 1}, {"ge", "3 2", "", 1}, {"ge", "least most", "", 0},
	{"eq", "1 2", "", 0}, {"eq", "2 2", "", 1}, {"eq", "3 2", "", 0}, {"eq", "least least", "", 1},
	{"ne", "1 2", "", 1}, {"ne", "2 2", "", 0}, {"ne", "3 2", "", 1}, {"ne", "most least", "", 1},
	{"min", "4 -9", "", -9}, {"min", "least most", "", least}, {"max", "4 -9", "", 4}, {"max", "least most", "", most}, {"max", "2 2", "", 2},
	{"clamp", "3 9 5", "", 5}, {"clamp", "3 5 9", "", 5}, {"clamp", "7 5 9", "", 7}, {"clamp", "10 5 9", "", 9}, {"clamp", "0 least most", "", 0},
	{"med", "9 1 5", "", 5}, {"med", "1 9 5", "", 5}, {"med", "5 9 1", "", 5}, {"med", "most least 0", "", 0}, {"med", "2 2 7", "", 2},
	{"sel", "0 3 4", "", 4}, {"sel", "1 3 4", "", 3}, {"sel", "least 3 4", "", 3}, {"sel", "-1 most least", "", most}, {"sel", "0 most least", "", least},
	{"shlk", "-1", "31", least}, {"shlk", "3", "4", 48}, {"shlk", "5", "0", 5}, {"shlk", "0", "31", 0},
	{"shrk", "least", "31", -1}, {"shrk", "-7", "1", -4}, {"shrk", "5", "0", 5}, {"shrk", "most", "31", 0},
	{"andk", "-1", "most", most}, {"andk", "least", "most", 0}, {"andk", "-2", "7", 6}, {"andk", "5", "0", 0},
	{"mulk", "1", "least", least}, {"mulk", "-1", "most", -most}, {"mulk", "7", "-3", -21}, {"mulk", "7", "1", 7}, {"mulk", "least", "0", 0}, {"mulk", "0", "least", 0},
	{"muls", "7", "1431655766 32", 2}, {"muls", "-7", "1431655766 32", -3}, {"muls", "1", "4611686018427387904 62", 1}, {"muls", "-1", "4611686018427387904 62", -1}, {"muls", "least", "2147483648 62", -1}, {"muls", "most", "1 0", most}, {"muls", "least", "1 0", least}, {"muls", "255", "171 9", 85}, {"muls", "-1", "1 62", -1}, {"muls", "5", "1 62", 0},
}

func TestNumbersAlone(t *testing.T) {
	asked := map[string]bool{}
	for _, c := range knowns {
		asked[c.name] = true
		text, own := "", ""
		for i, arg := range strings.Fields(c.args) {
			text += "num " + arg + "; "
			own += fmt.Sprint(" ", i)
		}
		becomes(t, text+c.name+own+" "+c.constants, text+fmt.Sprint("num ", c.want))
		// The same behind what is no number: registers of other numbers.
		front, own := "place 16; in x; place 10; ", ""
		for i := range strings.Fields(c.args) {
			own += fmt.Sprint(" ", i+3)
		}
		becomes(t, front+text+c.name+own+" "+c.constants+"; out 0", front+text+fmt.Sprint("num ", c.want)+"; out 0")
	}
	for _, name := range all {
		if readsOf(name) > 0 && !asked[name] {
			t.Errorf("%s of numbers alone isn't asked", name)
		}
	}
}

// edges are numbers near to where operators change what they do.
var edges = []int{least, least + 1, -65536, -32, -2, -1, 0, 1, 2, 31, 32, 255, 65536, most - 1, most}

// bounds are the constants of the operators, at their edges.
var bounds = map[string][][2]int{
	"shlk": {{0, 0}, {1, 0}, {16, 0}, {31, 0}}, "shrk": {{0, 0}, {1, 0}, {16, 0}, {31, 0}}, "andk": {{0, 0}, {1, 0}, {255, 0}, {most, 0}}, "mulk": {{least, 0}, {-1, 0}, {0, 0}, {1, 0}, {3, 0}, {most, 0}},
	"muls": {{1, 0}, {1, 1}, {1, 62}, {171, 9}, {1431655766, 32}, {1 << 31, 31}, {1 << 31, 62}, {1 << 62, 0}, {1 << 62, 62}},
}

// constantsOf answers the constants with which an operator is asked.
func constantsOf(name string) [][2]int {
	if list, ok := bounds[name]; ok {
		return list
	}
	return [][2]int{{}}
}

func TestAllNumbersAlone(t *testing.T) {
	folded := 0
	for _, name := range all {
		count := readsOf(name)
		if count == 0 {
			continue
		}
		for i := range int(math.Pow(float64(len(edges)), float64(count))) {
			c := api.Code{Kind: image, Out: count}
			var args []int
			for range count {
				args = append(args, edges[i%len(edges)])
				c.Insts = append(c.Insts, api.Inst{Op: api.OpNum, K: edges[i%len(edges)]})
				i /= len(edges)
			}
			for _, by := range constantsOf(name) {
				n := api.Inst{Op: slices.Index(names, name), K: by[0], S: by[1]}
				for part, r := range []*int{&n.A, &n.B, &n.C}[:count] {
					*r = part
				}
				d := c
				d.Insts = append(slices.Clone(c.Insts), n)
				x, e := arith.Value(n.Op, n.K, n.S, args...)
				got, f := fold.Fold(d)
				if e != f || e == api.OK && !slices.Equal(got.Insts, append(slices.Clone(c.Insts), api.Inst{Op: api.OpNum, K: x})) {
					t.Errorf("Fold(%s) = %s, %d, not %d, %d", shown(d), shown(got), f, x, e)
				}
				if e == api.OK {
					folded++
				}
			}
		}
	}
	if folded < 10000 {
		t.Errorf("%d are folded", folded)
	}
}

// 14.1, 3 and 4

// Ahead of each instruction of the next tests stand these registers, all of which stay; its own is the register 16. Some hold the same, but none is another.
const ahead = "place 16; place 10; num 0; num 1; num -1; num 5; place 3; neg 0; abs 1; andk 1 15; or 0 3; num 0; num 1; num -1; num 5; place 16"

// readers read the own register, beside places of theirs.
const readers = "; place 4; place 5; sub 16 17; med 17 16 18; sel 17 18 16; min 18 21"

// read writes the readers with another register in the place of the own one.
func read(r int) string {
	return strings.ReplaceAll(readers, " 16", fmt.Sprint(" ", r))
}

// standing asks that an instruction stays, and that its register stands for another one, in what is read and as the answer.
func standing(t *testing.T, text string, r int) {
	t.Helper()
	code := ahead + "; " + text
	becomes(t, code+readers, code+read(r))
	becomes(t, code, fmt.Sprint(code, "; out ", r))
	becomes(t, code+readers+"; out 16", fmt.Sprint(code, read(r), "; out ", r))
}

// becoming asks that an instruction becomes a number, and that its register is then read as such.
func becoming(t *testing.T, text string, x int) {
	t.Helper()
	code := ahead + "; " + text
	want := fmt.Sprint(ahead, "; num ", x)
	becomes(t, code, want)
	becomes(t, code+readers+"; out 16", want+readers+"; out 16")
	becomes(t, code+"; neg 16; add 17 16", want+fmt.Sprint("; num ", -x, "; num 0"))
}

func TestBecomesNought(t *testing.T) {
	for _, r := range []int{0, 1, 6, 7, 8, 10, 15} {
		for _, name := range []string{"sub", "xor", "lt", "gt", "ne"} {
			becoming(t, fmt.Sprint(name, " ", r, " ", r), 0)
		}
		for _, name := range []string{"mul", "and"} {
			for _, nought := range []int{2, 11} {
				becoming(t, fmt.Sprint(name, " ", r, " ", nought), 0)
				becoming(t, fmt.Sprint(name, " ", nought, " ", r), 0)
			}
		}
		becoming(t, fmt.Sprintf("mod %d 3", r), 0)
		becoming(t, fmt.Sprintf("mod %d 12", r), 0)
		becoming(t, fmt.Sprintf("mulk %d 0", r), 0)
		becoming(t, fmt.Sprintf("andk %d 0", r), 0)
	}
}

func TestBecomesOne(t *testing.T) {
	for _, r := range []int{0, 1, 6, 7, 8, 10, 15} {
		for _, name := range []string{"le", "ge", "eq"} {
			becoming(t, fmt.Sprint(name, " ", r, " ", r), 1)
		}
	}
}

// Each line of the table, with each register in the place of that for which is stood.
func TestStandsFor(t *testing.T) {
	for _, r := range []int{0, 1, 6, 7, 8, 9, 10, 15} {
		for _, row := range []string{
			"add 2 r", "add r 2", "add 11 r", "add r 11", "xor 2 r", "xor r 2", "xor 11 r", "xor r 11",
			"mul 3 r", "mul r 3", "mul 12 r", "mul r 12",
			"or r r", "or 2 r", "or r 2", "or 11 r", "or r 11",
			"and r r", "and 4 r", "and r 4", "and 13 r", "and r 13",
			"min r r", "max r r",
			"sub r 2", "sub r 11", "shl r 2", "shl r 11", "shr r 2", "shr r 11",
			"div r 3", "div r 12", "shlk r 0", "shrk r 0", "mulk r 1",
			"sel 2 1 r", "sel 11 r r", "sel 3 r 0", "sel 4 r 0", "sel 5 r 0", "sel 12 r r", "sel 1 r r", "sel r r r", "sel 9 r r",
			"med r r 9", "med r r 5", "med r 9 r", "med r 5 r", "med 9 r r", "med 5 r r", "med r r r",
			"clamp 0 r r", "clamp 5 r r", "clamp r r r",
		} {
			standing(t, strings.ReplaceAll(row, " r", fmt.Sprint(" ", r)), r)
		}
	}
	standing(t, "neg 7", 0)
	standing(t, "abs 8", 8)
	// Also for a number, where not all that is read is one.
	for row, r := range map[string]int{"sel 2 0 5": 5, "sel 2 0 3": 3, "sel 3 5 0": 5, "sel 5 12 1": 12, "sel 0 5 5": 5, "sel 1 2 2": 2, "med 5 5 0": 5, "med 3 1 3": 3, "med 0 4 4": 4, "clamp 0 5 5": 5, "clamp 1 11 11": 11} {
		becomes(t, ahead+"; "+row, fmt.Sprint(ahead, "; ", row, "; out ", r))
		becomes(t, ahead+"; "+row+"; sub 16 6; neg 16", fmt.Sprint(ahead, "; ", row, "; sub ", r, " 6; num ", -coded(ahead).Insts[r].K))
	}
}

// What comes near to a line and is none.
func TestStays(t *testing.T) {
	for _, text := range []string{
		// A 0 where a 1 is asked, a 1 where a 0 is, and others.
		"add 3 0", "add 0 3", "add 0 4", "add 5 0", "xor 3 0", "xor 0 4", "xor 4 0", "xor 0 5", "mul 4 0", "mul 0 4", "mul 0 5", "or 3 0", "or 0 4", "or 4 0", "or 5 0",
		"and 3 0", "and 0 3", "and 5 0", "and 0 5", "sub 0 3", "sub 0 4", "shl 0 3", "shl 0 5", "shr 0 3", "shr 0 5", "div 0 4", "div 0 5", "mod 0 4", "mod 0 5",
		"shlk 0 1", "shlk 0 2", "shrk 0 1", "shrk 0 31", "mulk 0 2", "mulk 0 -1", "andk 0 1", "andk 0 255", "andk 0 most", "muls 0 1 0", "muls 0 1 62", "muls 0 2 1",
		// The number stands in the other part.
		"sub 2 0", "shl 2 9", "shr 2 9", "shl 3 9", "shr 4 9", "div 3 10", "div 2 10", "mod 3 10", "mod 2 10", "mod 4 10",
		// A place in the place of a number.
		"add 0 1", "xor 0 1", "mul 0 1", "or 0 1", "and 0 1", "sub 0 1", "shl 0 9", "shr 0 9", "div 0 10", "mod 0 10", "min 0 1", "max 0 1",
		"lt 0 1", "le 0 1", "gt 0 1", "ge 0 1", "eq 0 1", "ne 0 1", "sel 0 1 6", "med 0 1 6", "clamp 0 1 6",
		// One register twice, where that isn't asked.
		"add 0 0", "mul 0 0", "div 10 10", "mod 10 10", "sel 0 0 1", "sel 0 1 0", "clamp 0 0 1", "clamp 0 1 0", "shl 9 9", "shr 9 9",
		// Two registers that hold the same and are not one.
		"sub 0 15", "xor 15 0", "lt 0 15", "gt 0 15", "ne 15 0", "le 0 15", "ge 15 0", "eq 0 15", "or 0 15", "and 15 0", "min 0 15", "max 15 0", "sel 1 0 15", "sel 0 5 14", "sel 0 2 11", "med 0 15 1", "med 1 0 15", "med 0 1 15", "med 0 5 14", "med 5 0 14", "med 5 14 0", "clamp 1 0 15", "clamp 0 5 14",
		// A number beside what isn't one.
		"lt 2 0", "le 0 2", "gt 3 0", "ge 0 3", "eq 2 0", "ne 0 2", "min 2 0", "max 0 2", "min 4 0", "sel 0 2 3", "sel 0 3 2", "med 2 3 0", "clamp 0 2 5", "clamp 2 0 1", "clamp 3 0 5",
		// Signs.
		"neg 0", "neg 8", "neg 10", "abs 0", "abs 7", "sgn 0", "sgn 7", "sgn 8",
	} {
		stays(t, ahead+"; "+text)
		stays(t, ahead+"; "+text+readers)
		stays(t, ahead+"; "+text+readers+"; out 16")
	}
	stays(t, "place 16; sgn 0; sgn 1")
	stays(t, "place 16; neg 0; abs 1; neg 2; abs 3")
	stays(t, "place 16; shlk 0 1; shlk 1 1; shrk 2 2; mulk 3 3; mulk 4 3; andk 5 7; andk 6 7")
}

// Numbers that aren't asked for, about those that are.
func TestNumbersNear(t *testing.T) {
	asked := map[string][2][]int{
		"add": {{0}, {0}}, "xor": {{0}, {0}}, "or": {{0}, {0}}, "mul": {{0, 1}, {0, 1}}, "and": {{-1, 0}, {-1, 0}}, "sub": {nil, {0}}, "shl": {nil, {0}}, "shr": {nil, {0}}, "div": {nil, {1}}, "mod": {nil, {1}},
	}
	kept := 0
	for _, name := range all {
		if readsOf(name) != 2 {
			continue
		}
		for x := -70; x <= 70; x++ {
			for part := range 2 {
				list := []string{"0", "0"}
				list[part] = "1"
				c := coded(fmt.Sprintf("place 16; num %d; %s %s; neg 2; out 2", x, name, strings.Join(list, " ")))
				d, e := modelled(t, c, applied{})
				same := slices.Equal(d.Insts, c.Insts) && d.Out == 2
				if e == api.OK && same == slices.Contains(asked[name][part], x) {
					t.Errorf("%s becomes %s", shown(c), shown(d))
				}
				if e == api.OK {
					kept++
				}
			}
		}
	}
	if kept < 3000 {
		t.Errorf("%d are taken", kept)
	}
	for _, name := range []string{"shlk", "shrk", "mulk", "andk"} {
		for x := -70; x <= 70; x++ {
			c := coded(fmt.Sprintf("place 16; %s 0 %d; neg 1; out 1", name, x))
			d, e := modelled(t, c, applied{})
			changed := map[string][]int{"shlk": {0}, "shrk": {0}, "mulk": {0, 1}, "andk": {0}}[name]
			if e == api.OK && code.Same(c, d) == slices.Contains(changed, x) {
				t.Errorf("%s becomes %s", shown(c), shown(d))
			}
		}
	}
}

// Which line is the first that applies.
func TestFirst(t *testing.T) {
	// Numbers alone go ahead of all other lines.
	becomes(t, "num 5; and 0 0", "num 5; num 5")
	becomes(t, "num 5; or 0 0; min 0 0; max 0 0", "num 5; num 5; num 5; num 5")
	becomes(t, "num 5; sub 0 0; xor 0 0; eq 0 0; mulk 0 0; andk 0 0; mulk 0 1; shlk 0 0; shrk 0 0", "num 5; num 0; num 0; num 1; num 0; num 0; num 5; num 5; num 5")
	becomes(t, "num 0; num 7; add 0 1; add 1 0; mul 0 1; and 1 0; or 0 1; sub 1 0; shl 1 0; shr 1 0", "num 0; num 7; num 7; num 7; num 0; num 0; num 7; num 7; num 7; num 7")
	becomes(t, "num 1; num 7; mul 0 1; div 1 0; mod 1 0; num -1; and 5 1", "num 1; num 7; num 7; num 7; num 0; num -1; num 7")
	becomes(t, "num 0; num 7; num 8; sel 0 1 2; sel 1 1 2; sel 0 1 1; sel 1 2 2; med 1 1 1; med 1 2 2; clamp 0 1 1", "num 0; num 7; num 8; num 8; num 7; num 7; num 8; num 7; num 8; num 7")
	becomes(t, "num 5; neg 0; neg 1; abs 1; abs 3", "num 5; num -5; num 5; num 5; num 5")
	// A number of rule 3 goes ahead of the table.
	becomes(t, "place 16; xor 0 0; out 1", "place 16; num 0; out 1")
	becomes(t, "place 16; num 0; mul 0 1; mul 1 0; and 0 1; and 1 0", "place 16; num 0; num 0; num 0; num 0; num 0")
	becomes(t, "place 16; sub 0 0; sub 0 1; sub 1 1", "place 16; num 0; sub 0 1; num 0")
	becomes(t, "place 16; num 0; sub 0 1; sub 2 0", "place 16; num 0; sub 0 1; num 0")
	// Of the table's own lines.
	becomes(t, "place 16; and 0 0; or 0 0; neg 1; neg 2", "place 16; and 0 0; or 0 0; neg 0; neg 0")
	becomes(t, "place 16; num 0; sel 1 0 0; num 4; sel 3 0 0; sgn 2; sgn 4", "place 16; num 0; sel 1 0 0; num 4; sel 3 0 0; sgn 0; sgn 0")
	becomes(t, "place 16; place 10; med 0 0 0; med 0 0 1; med 0 1 0; med 1 0 0; sgn 2; sgn 3; sgn 4; sgn 5", "place 16; place 10; med 0 0 0; med 0 0 1; med 0 1 0; med 1 0 0; sgn 0; sgn 0; sgn 0; sgn 0")
	becomes(t, "place 16; num 0; num 3; sel 1 0 2; sel 2 1 0; sel 2 0 1; out 3", "place 16; num 0; num 3; sel 1 0 2; sel 2 1 0; sel 2 0 1; out 2")
	becomes(t, "place 16; num 0; num 3; sel 1 0 2; sel 2 1 0; sel 2 0 1; out 4", "place 16; num 0; num 3; sel 1 0 2; sel 2 1 0; sel 2 0 1; out 1")
}

// Registers that stand for others, step by step.

func TestSteps(t *testing.T) {
	becomes(t, "place 16; num 0; add 0 1; add 2 1; or 1 3; xor 4 1; sub 5 1; neg 6", "place 16; num 0; add 0 1; add 0 1; or 1 0; xor 0 1; sub 0 1; neg 0")
	becomes(t, "place 16; num 0; add 0 1; add 2 1; sub 3 2; out 3", "place 16; num 0; add 0 1; add 0 1; num 0; out 0")
	becomes(t, "place 16; neg 0; neg 1; neg 2; neg 3; neg 4; out 4", "place 16; neg 0; neg 1; neg 0; neg 3; neg 0; out 0")
	becomes(t, "place 16; neg 0; neg 1; neg 2; neg 3; neg 4; out 5", "place 16; neg 0; neg 1; neg 0; neg 3; neg 0; out 5")
	becomes(t, "place 16; neg 0; neg 1; neg 2", "place 16; neg 0; neg 1; neg 0")
	becomes(t, "place 16; neg 0; neg 1; neg 1; sub 2 3; out 3", "place 16; neg 0; neg 1; neg 1; num 0; out 0")
	becomes(t, "place 16; abs 0; abs 1; abs 2; abs 3; sgn 4", "place 16; abs 0; abs 1; abs 1; abs 1; sgn 1")
	// A register that stands for an OpNeg, for an OpAbs, for a number.
	becomes(t, "place 16; neg 0; num 0; add 1 2; neg 3; sgn 4", "place 16; neg 0; num 0; add 1 2; neg 1; sgn 0")
	becomes(t, "place 16; abs 0; num 1; mul 2 1; abs 3; sgn 4", "place 16; abs 0; num 1; mul 2 1; abs 1; sgn 1")
	becomes(t, "place 16; num 0; num 5; sel 1 0 2; sel 2 3 0; neg 4; add 0 5", "place 16; num 0; num 5; sel 1 0 2; sel 2 2 0; num -5; add 0 5")
	becomes(t, "place 16; num 0; sel 1 0 1; add 2 0; sel 2 0 2; out 3", "place 16; num 0; sel 1 0 1; add 1 0; sel 1 0 1; out 0")
	// An OpNeg reads in the new code what its register stands for: that is what is stood for.
	becomes(t, "place 16; num 0; add 0 1; neg 2; neg 3; sgn 4", "place 16; num 0; add 0 1; neg 0; neg 3; sgn 0")
	// What was an OpNeg, an OpAbs is none any more, once it is a number.
	becomes(t, "place 16; sub 0 0; neg 1; neg 2; abs 3; abs 4; or 0 5", "place 16; num 0; num 0; num 0; num 0; num 0; or 0 5; out 0")
	// Registers become one, which were two.
	becomes(t, "place 16; num 0; add 0 1; or 0 1; sub 2 3; eq 2 0; med 2 3 1; clamp 1 2 3; sel 0 2 3; min 2 3", "place 16; num 0; add 0 1; or 0 1; num 0; num 1; med 0 0 1; clamp 1 0 0; sel 0 0 0; min 0 0; out 0")
	becomes(t, "place 16; place 10; num 1; mul 1 2; med 0 1 3; med 3 0 1; sgn 4; sgn 5", "place 16; place 10; num 1; mul 1 2; med 0 1 1; med 1 0 1; sgn 1; sgn 1")
}

// An instruction that reads what has become a number ahead of it.
func TestReadsWhatBecameNumber(t *testing.T) {
	becomes(t, "place 16; num 2; num 3; mul 1 2; add 0 3; mul 3 3", "place 16; num 2; num 3; num 6; add 0 3; num 36")
	becomes(t, "place 16; sub 0 0; add 0 1; add 1 0; sub 0 1; ne 0 0; shl 0 5; neg 2", "place 16; num 0; add 0 1; add 1 0; sub 0 1; num 0; shl 0 5; neg 0")
	becomes(t, "place 16; eq 0 0; mul 0 1; neg 1; and 0 3; sgn 2; sgn 4", "place 16; num 1; mul 0 1; num -1; and 0 3; sgn 0; sgn 0")
	becomes(t, "place 16; mulk 0 0; andk 0 0; add 1 2; or 0 3; sel 3 1 0; add 4 5", "place 16; num 0; num 0; num 0; or 0 3; sel 3 1 0; add 0 0")
	becomes(t, "num 1; num 1; add 0 1; add 1 2; add 2 3; add 3 4; add 4 5", "num 1; num 1; num 2; num 3; num 5; num 8; num 13")
	becomes(t, "in hi; num 2; div 0 1; in mid; sub 3 2; place 16; mul 5 4", "num 255; num 2; num 127; num 128; num 1; place 16; mul 5 4; out 5")
}

func TestOut(t *testing.T) {
	code := "place 16; num 0; add 0 1; num 2; num 3; add 3 4; neg 2; neg 6; sub 7 7; eq 2 7"
	want := "place 16; num 0; add 0 1; num 2; num 3; num 5; neg 0; neg 6; num 0; num 1"
	for out, to := range []int{0, 1, 0, 3, 4, 5, 6, 0, 8, 9} {
		becomes(t, fmt.Sprint(code, "; out ", out), fmt.Sprint(want, "; out ", to))
	}
	for out := range 200 {
		text := strings.Repeat("place 16; ", 200)
		stays(t, fmt.Sprint(text, "out ", out))
	}
}

func TestLongCodes(t *testing.T) {
	// 198 sums with 0, each of the one ahead.
	code, want := "place 16; num 0", "place 16; num 0"
	for i := 2; i < 200; i++ {
		code += fmt.Sprintf("; add %d 1", []int{0, i - 1}[min(i-2, 1)])
		want += "; add 0 1"
	}
	for out := range 200 {
		to := 0
		if out == 1 {
			to = 1
		}
		becomes(t, fmt.Sprint(code, "; out ", out), fmt.Sprint(want, "; out ", to))
	}
	// Signs, each of the one ahead.
	code, want = "place 16", "place 16"
	for i := 1; i < 200; i++ {
		code += fmt.Sprint("; neg ", i-1)
		want += fmt.Sprint("; neg ", []int{i - 1, 0}[i%2])
		becomes(t, code, fmt.Sprint(want, "; out ", []int{0, i}[i%2]))
	}
	// Numbers, each of the two ahead.
	code, want = "num 7; num 3", "num 7; num 3"
	x, y := 7, 3
	for i := 2; i < 200; i++ {
		code += fmt.Sprintf("; sub %d %d", i-1, i-2)
		x, y = y, y-x
		want += fmt.Sprint("; num ", y)
		becomes(t, code, want)
	}
}

func valuesOf(c api.Code) ([]int, api.Errno) { return code.Values(c, windowOf(c.Kind, 0)) }

// An instruction that becomes a number has all other fields 0, and one that stays has all of them as they were but the registers.
func TestFields(t *testing.T) {
	list := []string{
		"sel 1 2 3", "med 1 2 3", "clamp 1 2 3", "add 3 2", "sub 1 2", "mul 0 2", "and 1 0", "sub 4 4", "eq 5 5", "mod 5 1", "mulk 5 0", "andk 5 0", "shlk 3 2", "shrk 3 2", "andk 3 2", "mulk 3 2", "muls 3 171 9", "neg 3", "abs 3", "sgn 3", "in hi",
	}
	for _, text := range list {
		c := coded("num 0; num 1; num 2; num 3; place 16; place 10; " + text)
		d, e := fold.Fold(c)
		n := d.Insts[6]
		if e != api.OK || n.Op != api.OpNum || n.A != 0 || n.B != 0 || n.C != 0 || n.S != 0 {
			t.Errorf("%s becomes %+v, %d", text, n, e)
		}
		if w, _ := valuesOf(c); n.K != w[6] {
			t.Errorf("%s becomes %+v, not %d", text, n, w[6])
		}
	}
	becomes(t, "place 16; num 0; add 0 1; shlk 2 7; shrk 3 5; andk 4 most; mulk 5 -9; muls 2 171 9; muls 7 1431655766 32", "place 16; num 0; add 0 1; shlk 0 7; shrk 3 5; andk 4 most; mulk 5 -9; muls 0 171 9; muls 7 1431655766 32")
}

// All arrangements of registers of many sorts, for every operator: what is near to a line, and what is one.
func TestAllArrangements(t *testing.T) {
	const front = "place 16; place 10; num 0; num 1; num -1; num 2; num 0; num 1; num -1; neg 0; abs 1; or 0 3; add 0 2; neg 9; in lo; andk 1 15; sub 12 13; sel 14 0 9"
	const count = 18
	hits := applied{}
	got := map[api.Errno]int{}
	for _, name := range all {
		number := readsOf(name)
		if number == 0 {
			continue
		}
		for i := range int(math.Pow(count, float64(number))) {
			for _, by := range constantsOf(name) {
				n := api.Inst{Op: slices.Index(names, name), K: by[0], S: by[1]}
				rest := i
				for _, r := range []*int{&n.A, &n.B, &n.C}[:number] {
					*r = rest % count
					rest /= count
				}
				c := coded(front)
				c.Insts = append(c.Insts, n)
				c.Out = count
				if i%2 == 0 {
					c.Insts = append(c.Insts, inst("neg 18"), inst("min 18 1"), inst("neg 19"))
				}
				_, e := modelled(t, c, hits)
				got[e]++
			}
		}
	}
	if got[api.OK] < 10000 || got[api.ErrDivZero] < 100 || got[api.ErrOverflow] < 100 {
		t.Errorf("the answers came so often: %v", got)
	}
	allApplied(t, hits)
}

// allApplied asks that every line of the rules 3 and 4 was applied for every operator that it names.
func allApplied(t *testing.T, hits applied) {
	t.Helper()
	count := 0
	for _, r := range slices.Concat(rule3, rule4) {
		for _, name := range strings.Fields(r.ops) {
			if count++; hits[name+": "+r.where+": "+r.then] == 0 {
				t.Errorf("%s: %s: %s was never applied", name, r.where, r.then)
			}
		}
	}
	if len(hits) != count {
		t.Errorf("%d lines are applied, %d are told", len(hits), count)
	}
}

// 14.2

// listed answers a list of registers with spare room, and a function that tells whether all of it still stands.
func listed(list ...int) ([]int, func() bool) {
	whole := append(slices.Clone(list), -7, -8)
	was := slices.Clone(whole)
	return whole[:len(list)], func() bool { return slices.Equal(whole, was) }
}

func TestThrough(t *testing.T) {
	to, stands := listed(5, 6, 7, 3, 0)
	for _, c := range []struct{ n, want api.Inst }{
		{api.Inst{Op: api.OpSub, A: 1, B: 0, C: 9}, api.Inst{Op: api.OpSub, A: 6, B: 5, C: 9}},
		{api.Inst{Op: api.OpNeg, A: 2, B: 1, C: 1}, api.Inst{Op: api.OpNeg, A: 7, B: 1, C: 1}},
		{api.Inst{Op: api.OpSel, A: 2, B: 1, C: 4}, api.Inst{Op: api.OpSel, A: 7, B: 6, C: 0}},
		{api.Inst{Op: api.OpMulS, A: 4, B: 4, C: 4, K: 4, S: 4}, api.Inst{Op: api.OpMulS, A: 0, B: 4, C: 4, K: 4, S: 4}},
		{api.Inst{Op: api.OpNum, A: 1, B: 2, C: 3, K: 4, S: 1}, api.Inst{Op: api.OpNum, A: 1, B: 2, C: 3, K: 4, S: 1}},
		{api.Inst{Op: api.OpUse, A: 1, B: 2, C: 3, K: 4, S: 1}, api.Inst{Op: api.OpUse, A: 1, B: 2, C: 3, K: 4, S: 1}},
		{api.Inst{Op: api.OpMax, A: 3, B: 3, C: 3}, api.Inst{Op: api.OpMax, A: 3, B: 3, C: 3}},
		// The exchanged register isn't exchanged once more.
		{api.Inst{Op: api.OpAdd, A: 4, B: 4}, api.Inst{Op: api.OpAdd, A: 0, B: 0}},
		{api.Inst{}, api.Inst{}},
	} {
		if got := fold.Through(c.n, to); got != c.want {
			t.Errorf("Through(%+v) = %+v, not %+v", c.n, got, c.want)
		}
	}
	if !stands() {
		t.Errorf("Through changed its list")
	}
}

// Of every number of an operator, with constants of any sort.
func TestThroughOfAllOperators(t *testing.T) {
	to, stands := listed(40, -1, math.MaxInt, 1, 1, math.MinInt, 0)
	for op := -300; op <= 300; op++ {
		count := 0
		if op > 0 && op < len(names) && slices.Contains(all, names[op]) {
			count = readsOf(names[op])
		}
		for i := range 7 * 7 * 7 {
			n := api.Inst{Op: op, A: i % 7, B: i / 7 % 7, C: i / 49, K: i - 100, S: 9 - i}
			want := n
			for part, r := range []*int{&want.A, &want.B, &want.C} {
				if part < count {
					*r = to[*r]
				}
			}
			if got := fold.Through(n, to); got != want {
				t.Fatalf("Through(%+v) = %+v, not %+v", n, got, want)
			}
		}
	}
	for _, op := range append([]int{1<<32 + api.OpAdd, -1<<32 + api.OpSel, 1<<8 + api.OpNeg}, far...) {
		n := api.Inst{Op: op, A: 1, B: 2, C: 3, K: 4, S: 5}
		if got := fold.Through(n, to); got != n {
			t.Errorf("Through(%+v) = %+v", n, got)
		}
	}
	if !stands() {
		t.Errorf("Through changed its list")
	}
}

// What isn't read isn't looked at: it need be no number of an element, and there need be no list.
func TestThroughOfWhatIsNotRead(t *testing.T) {
	for _, r := range append([]int{-1, 1, 2, 255}, far...) {
		for _, n := range []api.Inst{{Op: api.OpNum, A: r, B: r, C: r, K: r, S: r}, {Op: api.OpIn, A: r, B: r, C: r}, {Op: api.OpPlace, A: r, B: r, C: r}, {Op: api.OpUse, A: r, B: r, C: r}, {A: r, B: r, C: r}, {Op: -1, A: r}, {Op: 99, A: r, C: r}} {
			for _, to := range [][]int{nil, {}, {3}} {
				if got := fold.Through(n, to); got != n {
					t.Errorf("Through(%+v, %v) = %+v", n, to, got)
				}
			}
		}
		for _, n := range []api.Inst{{Op: api.OpNeg, B: r, C: r, K: r, S: r}, {Op: api.OpMulK, B: r, C: r, K: r, S: r}} {
			want := n
			want.A = 3
			if got := fold.Through(n, []int{3}); got != want {
				t.Errorf("Through(%+v) = %+v, not %+v", n, got, want)
			}
		}
		if got, want := fold.Through(api.Inst{Op: api.OpXor, C: r, K: r, S: r}, []int{3}), (api.Inst{Op: api.OpXor, A: 3, B: 3, C: r, K: r, S: r}); got != want {
			t.Errorf("Through = %+v, not %+v", got, want)
		}
		// Nothing is promised of what is read and is no number of an element, but that the call ends.
		fold.Through(api.Inst{Op: api.OpSel, A: r, B: r, C: r}, []int{3})
		fold.Through(api.Inst{Op: api.OpNeg, A: r}, nil)
	}
	fold.Through(api.Inst{Op: api.OpMed}, nil)
}

// Read through as many registers as a code may have, each told from all others.
func TestThroughFar(t *testing.T) {
	var list []int
	for i := range 200 {
		list = append(list, 1000-3*i)
	}
	for a := range 200 {
		b, c := 199-a, (a+77)%200
		n := api.Inst{Op: api.OpClamp, A: a, B: b, C: c}
		if got := fold.Through(n, list); got != (api.Inst{Op: api.OpClamp, A: 1000 - 3*a, B: 1000 - 3*b, C: 1000 - 3*c}) {
			t.Errorf("Through(%+v) = %+v", n, got)
		}
	}
}

// 14.3: a pass

const median = "med(p(-1,0),p(0,-1),p(-1,0)+p(0,-1)-p(-1,-1))"

// programs are ordinary ones, of images, of sounds and of both.
var programs = []string{
	"1", "x", "y", "c", "lo", "hi", "mid", "p(-1,0)", "q(1,-1)", "q(3,1,1)", "p(-16)", "p(-1,0)+1", "(p(-1,0)+p(0,-1))/2", median,
	"let a=p(-1,0);let b=p(0,-1);let c0=p(-1,-1);c0>=max(a,b)?min(a,b):c0<=min(a,b)?max(a,b):a+b-c0",
	"1/(abs(p(-1,0)-p(0,-1))+1)", "(x&255)*(x&255)", "2*p(-1)-p(-2)", "clamp(2*p(-1)-p(-2),lo,hi)", "let a=hi;a*a", "x?1:y?2:3", "c?q(1,0,0)+p(-1,0)-q(1,-1,0):mid",
	"let d=abs(p(-1,0)-p(0,-1));d<2?0:d<8?1:d<32?2:3", "-x", "--x", "---p(-1)", "--1", "sgn(-x)<<3>>1", "1<<2<3|4&5^6", "let a=1;let b=a;let c2=a+b;(c2%3==0)!=(a>b)", "min(x,max(y,-c))", "let unused=q(3,-4);2147483647",
	"let e=p(-1)-p(-2);e/3+e%5*(e>>1)-(e<<2)&7|-e^c", "hi-lo+1", "(hi-lo+1)/2-mid", "lo+p(-1,0)", "p(-1)+mid", "p(-1)*mid", "(hi>0)*p(-1)", "(hi>0)*p(-1,0)", "let a=p(-1);a-a", "let a=p(-1,0);a==a?a:lo", "let a=p(-1);med(a,a,p(-2))",
	"(hi-lo)%(hi-lo+1)", "p(-1)/(mid+1)", "p(-1,0)%(lo+1)", "p(-1,0)&-1", "p(-1)<<lo-lo", "hi==lo?p(-1):p(-2)", "hi>lo?p(-1,0):p(0,-1)", "abs(abs(p(-1)))", "abs(-abs(p(-1)))",
	"0" + strings.Repeat("+1%2", 22), strings.Repeat("-", 23) + "1", strings.Repeat("-", 22) + "x", "1" + strings.Repeat("%7", 28), "1" + strings.Repeat("/7", 39),
}

func TestPrograms(t *testing.T) {
	taken, changed := 0, 0
	kinds(func(k api.Kind) {
		for _, text := range programs {
			tree, e := parse.Parse(text)
			if e != api.OK {
				t.Fatalf("Parse(%q): %d", text, e)
			}
			c, e := lower.Lower(k, tree)
			if e != api.OK {
				continue
			}
			d, e := modelled(t, c, applied{})
			if e != api.OK {
				t.Errorf("%q for %v: %d", text, k, e)
			}
			if taken++; !code.Same(c, d) {
				changed++
			}
		}
	})
	if taken < 1000 || changed < 500 {
		t.Errorf("%d programs are taken, %d are changed", taken, changed)
	}
}

// sketch answers a code of a kind that may be, which has much to fold; places are below a number. Of a hundred instructions that would be refused so many are kept.
func sketch(next func(int) int, k api.Kind, count, places, kept int) api.Code {
	c := api.Code{Kind: k}
	for i := 0; i < count && code.Cost(c) < 194; i++ {
		c.Insts = append(c.Insts, drawn(next, i, places))
		if _, e := verify.Verify(c); e != api.OK && next(100) >= kept {
			c.Insts[i] = api.Inst{Op: api.OpNum, K: next(4) - 1}
		}
	}
	c.Out = next(len(c.Insts))
	if next(2) == 0 {
		c.Out = len(c.Insts) - 1
	}
	return c
}

// drawn answers an instruction that reads registers ahead of the number i: near ones, any ones, and the same twice.
func drawn(next func(int) int, i, places int) api.Inst {
	name := all[next(len(all))]
	if i == 0 || next(5) == 0 {
		name = []string{"num", "num", "in", "place", "place"}[next(5)]
	}
	n := api.Inst{Op: slices.Index(names, name)}
	last := -1
	for _, r := range []*int{&n.A, &n.B, &n.C}[:readsOf(name)] {
		switch next(6) {
		case 0, 1:
			*r = next(i)
		case 2:
			*r = max(last, 0)
		default:
			*r = i - 1 - next(min(i, 4))
		}
		last = *r
	}
	switch name {
	case "num":
		n.K = []int{0, 1, -1, 0, 1, -1, 2, 5, 31, 255, next(100) - 50}[next(11)]
	case "in":
		n.K = next(6)
	case "place":
		n.K = next(places)
	case "shlk", "shrk":
		n.K = []int{0, 0, 1, next(8)}[next(4)]
	case "mulk":
		n.K = []int{0, 1, 1, -1, 3}[next(5)]
	case "andk":
		n.K = []int{0, 1, 255, most}[next(4)]
	case "muls":
		by := bounds["muls"][next(9)]
		n.K, n.S = by[0], by[1]
	}
	return n
}

func TestCodesAtRandom(t *testing.T) {
	next := draw(14)
	got := map[api.Errno]int{}
	hits := applied{}
	changed, steps := 0, 0
	for i := range 12000 {
		k := api.Kind{Form: next(2), Depth: 1 + next(16)}
		limit := kind.Count(k)
		if next(10) == 0 {
			limit = 60
		}
		count, kept := 1+next(18), 6
		if i%60 == 0 {
			count, kept = 100+next(101), 0
		}
		c := sketch(next, k, count, limit, kept)
		d, e := modelled(t, c, hits)
		if got[e]++; e != api.OK {
			continue
		}
		if !code.Same(c, d) {
			changed++
		}
		// What was folded is a code like any other.
		if _, e := modelled(t, d, applied{}); e != api.OK {
			t.Errorf("%s is folded, but %s is refused by %d", shown(c), shown(d), e)
		}
		if d.Out != c.Out {
			steps++
		}
	}
	for e, least := range map[api.Errno]int{api.OK: 6000, api.ErrAhead: 20, api.ErrDivZero: 100, api.ErrOverflow: 100} {
		if got[e] < least {
			t.Errorf("the answer %d came %d times", e, got[e])
		}
	}
	if changed < 3000 || steps < 500 {
		t.Errorf("%d codes are changed, %d answer another register", changed, steps)
	}
	allApplied(t, hits)
}

// On every window of three places and a plane, of the least depths.
func TestAllWindows(t *testing.T) {
	next := draw(3)
	for _, k := range []api.Kind{{Form: api.Image, Depth: 1}, {Form: api.Sound, Depth: 1}, {Form: api.Image, Depth: 2}, {Form: api.Sound, Depth: 2}} {
		low, size := kind.Low(k), kind.High(k)-kind.Low(k)+1
		changed := 0
		for range 150 {
			c := sketch(next, k, 4+next(14), 3, 0)
			d, e := modelled(t, c, applied{})
			if e != api.OK {
				continue
			}
			if !code.Same(c, d) {
				changed++
			}
			w := windowOf(k, uint(next(20)))
			for i := range size * size * size * 4 {
				w.P[0], w.P[1], w.P[2], w.C = low+i%size, low+i/size%size, low+i/size/size%size, i/size/size/size
				answersAlike(t, c, d, w)
			}
		}
		if changed < 50 {
			t.Errorf("%d codes of %v are changed", changed, k)
		}
	}
}

func TestOneThingChanged(t *testing.T) {
	next := draw(5)
	got := map[api.Errno]int{}
	for range 100 {
		k := api.Kind{Form: next(2), Depth: 1 + next(16)}
		c := sketch(next, k, 1+next(6), kind.Count(k), 0)
		fields := []*int{&c.Out, &c.Kind.Form, &c.Kind.Depth}
		for i := range c.Insts {
			n := &c.Insts[i]
			fields = append(fields, &n.Op, &n.A, &n.B, &n.C, &n.K, &n.S)
		}
		for _, field := range fields {
			old := *field
			for _, to := range append([]int{old - 1, old + 1, -1, 0, 1, 2, 5, 6, 30, 31, 32, 43, 44, 62, 63, 255, 256, len(c.Insts) - 1, len(c.Insts)}, far...) {
				*field = to
				_, e := modelled(t, c, applied{})
				got[e]++
			}
			*field = old
		}
	}
	for e, least := range map[api.Errno]int{api.OK: 1000, api.ErrCode: 5000, api.ErrAhead: 20, api.ErrDivZero: 20, api.ErrOverflow: 50} {
		if got[e] < least {
			t.Errorf("the answer %d came %d times", e, got[e])
		}
	}
}

// P1

// Codes of any numbers: whatever they are, there is an answer, and it is refused just where Verify refuses it.
func TestWildCodes(t *testing.T) {
	next := draw(7)
	number := func() int {
		switch next(4) {
		case 0, 1:
			return 0
		case 2:
			return next(8) - 1
		}
		return append([]int{least, most, 1 << 31, 1 << 62, 255, 256}, far...)[next(6+len(far))]
	}
	for range 30000 {
		c := api.Code{Kind: api.Kind{Form: next(3), Depth: next(18)}, Out: number()}
		for range next(6) {
			c.Insts = append(c.Insts, api.Inst{Op: next(40) - 2, A: number(), B: number(), C: number(), K: number(), S: number()})
		}
		modelled(t, c, applied{})
		for _, n := range c.Insts {
			fold.Through(n, []int{number(), number(), number()}[:next(4)])
		}
	}
	refused(t, api.Code{Kind: image, Insts: slices.Repeat([]api.Inst{{Op: api.OpNum}}, 1<<20)}, api.ErrCode)
}

// examples are codes that are taken: such as stay as they were, and such as don't.
var examples = []string{
	"num 1", "place 16; neg 0", "place 16; place 10; add 0 1; shrk 2 1", "place 1; place 2; place 3; med 0 1 2",
	"num 2; num 3; mul 0 1", "in hi", "place 16; num 0; add 0 1; neg 2; out 2", "place 16; sub 0 0; eq 0 0; sel 2 0 1", quotients(49), strings.TrimSuffix(strings.Repeat("place 16; ", 200), "; "),
}

func TestAnswersAreNewMemory(t *testing.T) {
	var last []api.Code
	for _, text := range examples {
		source := coded(text)
		c, stands := roomy(source)
		one, _ := fold.Fold(c)
		two, _ := fold.Fold(c)
		kept := api.Code{Kind: two.Kind, Insts: slices.Clone(two.Insts), Out: two.Out}
		if len(kept.Insts) != len(source.Insts) || !code.Same(one, two) {
			t.Errorf("%s: %s, then %s", text, shown(one), shown(two))
		}
		list := one.Insts[:cap(one.Insts)]
		for i := range list {
			list[i] = api.Inst{Op: -99, A: -98}
		}
		if !code.Same(two, kept) {
			t.Errorf("%s: two answers share memory", text)
		}
		if !stands() {
			t.Errorf("%s: an answer shares memory with the code", text)
		}
		three, e := fold.Fold(c)
		if e != api.OK || !code.Same(three, two) {
			t.Errorf("%s: what was written into an answer is seen: %s, %d", text, shown(three), e)
		}
		for i := range c.Insts {
			c.Insts[i] = api.Inst{Op: -1, A: -1, K: -1}
		}
		if !code.Same(three, kept) {
			t.Errorf("%s: what was written into the code is seen", text)
		}
		last = append(last, three)
	}
	// Answers to other codes are left alone too.
	for i, text := range examples {
		if want, _ := model(coded(text), applied{}); !code.Same(last[i], want) {
			t.Errorf("%s: the answer has become %s", text, shown(last[i]))
		}
	}
}

// What a call answers hangs on its code alone: not on calls ahead of it, refused ones among them, nor on the list's room.
func TestOneCodeOneAnswer(t *testing.T) {
	next := draw(23)
	for i := range 200 {
		c := sketch(next, image, 1+next(12), 44+i%2*10, 10)
		want, f := fold.Fold(c)
		for range 3 {
			for _, text := range append([]string{"place 44", "num 0; div 0 0", quotients(50), "num most; add 0 0"}, examples...) {
				fold.Fold(coded(text))
			}
			fold.Fold(codedFor(sound, "in lo; in mid; in y; add 1 2"))
			fold.Fold(api.Code{})
			d := c
			d.Insts = slices.Grow(slices.Clone(c.Insts), 50)
			if got, e := fold.Fold(d); e != f || !code.Same(got, want) {
				t.Errorf("Fold(%s): %s, %d, not %s, %d", shown(c), shown(got), e, shown(want), f)
			}
		}
	}
}

// The tests' own bounds and operators are those of the layers below.
func TestTheTestsModel(t *testing.T) {
	kinds(func(k api.Kind) {
		low, high, border := samples(k)
		if low != kind.Low(k) || high != kind.High(k) || border != kind.Border(k) {
			t.Errorf("%v: %d, %d, %d", k, low, high, border)
		}
		for seed := range uint(50) {
			if w := windowOf(k, seed); kind.Fits(k, w) != api.OK {
				t.Errorf("%v: %v doesn't fit", k, w)
			}
		}
	})
	for op, name := range names {
		want := -1
		if slices.Contains(all, name) {
			want = readsOf(name)
		}
		if arith.Arity(op) != want {
			t.Errorf("%s reads %d registers", name, arith.Arity(op))
		}
	}
	if len(all) != 32 || names[api.OpMulS] != "muls" || names[api.OpAdd] != "add" || names[api.OpClamp] != "clamp" || names[api.OpPlace] != "place" {
		t.Errorf("the operators are %v", names)
	}
}
