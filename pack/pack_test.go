package pack_test

import (
	"bytes"
	"fmt"
	"math"
	"slices"
	"strings"
	"testing"

	"damask/api"
	"damask/arith"
	"damask/code"
	"damask/lower"
	"damask/pack"
	"damask/parse"
	"damask/passes"
	"damask/verify"
)

// far are numbers far from all that may stand in a code.
var far = []int{math.MinInt, math.MinInt + 1, -1 << 62, -1 << 32, least - 1, 1 << 32, 1<<32 + 1, 1<<62 + 1, math.MaxInt - 1, math.MaxInt}

// The chapter's examples, and other chapters'

func TestExamples(t *testing.T) {
	writes(t, coded("place 16; num -2; mul 0 1"), octets("1 0 8 3, 3 16, 1 3, 10 1 0, 0"))
	writes(t, codedFor(sound, "place 15; num -300; muls 0 171 9; clamp 2 1 0; andk 3 200; shrk 0 3; out 4"), octets("1 1 16 6, 3 15, 1 0xd7 0x04, 33 1 0xab 0x01 9, 26 0 1 2, 31 0 0xc8 0x01, 30 4 3, 1"))
	refused(t, octets("2 0 8 3, 3 16, 1 3, 10 1 0, 0"), api.ErrForm)
	refused(t, octets("2"), api.ErrForm)
	refused(t, octets("1 0 8 0"), api.ErrCode)
	refused(t, octets("1 0 8 0xc9 0x01"), api.ErrCode)
	refused(t, octets("1 0 8"), api.ErrShort)
}

func TestExamplesOfTheWhole(t *testing.T) {
	writes(t, coded("num 7"), octets("1 0 8 1, 1 0x0e, 0"))
	writes(t, coded("num 0"), octets("1 0 8 1, 1 0, 0"))
	tree, _ := parse.Parse("(p(-1,0)+p(0,-1))/2")
	c, _ := lower.Lower(image, tree)
	writes(t, c, octets("1 0 8 5, 3 16, 3 10, 8 1 0, 1 4, 11 1 0, 0"))
	c, _ = passes.Best(c)
	writes(t, c, octets("1 0 8 4, 3 16, 3 10, 8 1 0, 30 0 1, 0"))
}

// 19.1: the bytes

// short answers the bytes of a number from 0 to 255 that is written as one from 0 on.
func short(n int) []byte {
	if n < 128 {
		return []byte{byte(n)}
	}
	return []byte{byte(n), 1}
}

// noughts answers the bytes of so many instructions that come to 0.
func noughts(count int) []byte { return bytes.Repeat([]byte{1, 0}, count) }

// flat answers so many instructions that come to 0.
func flat(count int) []api.Inst { return slices.Repeat([]api.Inst{{Op: api.OpNum}}, count) }

// of answers an instruction that reads registers, with the least constants.
func of(name string, registers ...int) api.Inst {
	n := api.Inst{Op: slices.Index(names, name)}
	for i, to := range []*int{&n.A, &n.B, &n.C}[:readsOf(name)] {
		*to = registers[i]
	}
	for i, k := range bounds[name][0] {
		*[]*int{&n.K, &n.S}[i] = k
	}
	return n
}

func TestEveryOperator(t *testing.T) {
	asked := map[string]bool{}
	for text, want := range map[string]string{
		"num 7": "1 14", "in 4": "2 4", "place 16": "3 16", "neg 0": "5 2", "abs 1": "6 1", "sgn 2": "7 0", "add 0 1": "8 2 1", "sub 1 0": "9 1 2", "mul 2 2": "10 0 0", "div 0 2": "11 2 0", "mod 2 0": "12 0 2",
		"shl 1 2": "13 1 0", "shr 2 1": "14 0 1", "and 0 0": "15 2 2", "or 1 1": "16 1 1", "xor 0 1": "17 2 1", "lt 1 0": "18 1 2", "le 0 2": "19 2 0", "gt 2 0": "20 0 2", "ge 1 2": "21 1 0", "eq 2 1": "22 0 1", "ne 0 1": "23 2 1",
		"min 1 0": "24 1 2", "max 0 2": "25 2 0", "clamp 0 1 2": "26 2 1 0", "med 2 0 1": "27 0 2 1", "sel 1 2 0": "28 1 0 2", "shlk 1 5": "29 1 5", "shrk 2 6": "30 0 6", "andk 0 100": "31 2 100", "mulk 1 -3": "32 1 5", "muls 2 85 8": "33 0 85 8",
	} {
		asked[strings.Fields(text)[0]] = true
		writes(t, coded("num 1; num 2; num 3; "+text), slices.Concat(octets("1 0 8 4, 1 2, 1 4, 1 6"), octets(want), octets("0")))
		writes(t, codedFor(sound, "num 1; num 2; num 3; "+text+"; num 5; out 1"), slices.Concat(octets("1 1 16 5, 1 2, 1 4, 1 6"), octets(want), octets("1 10, 3")))
	}
	if len(asked) != 32 || len(all) != 32 {
		t.Errorf("%d operators of %d were asked", len(asked), len(all))
	}
}

func TestConstants(t *testing.T) {
	signed := map[string]string{
		"0": "0", "1": "2", "-1": "1", "2": "4", "-2": "3", "63": "126", "-64": "127", "64": "0x80 1", "-65": "0x81 1", "-300": "0xd7 4", "8191": "0xfe 0x7f", "-8192": "0xff 0x7f", "8192": "0x80 0x80 1", "1048576": "0x80 0x80 0x80 1",
		"most": "0xfe 0xff 0xff 0xff 0x0f", "least": "0xff 0xff 0xff 0xff 0x0f", "2147483646": "0xfc 0xff 0xff 0xff 0x0f", "-2147483647": "0xfd 0xff 0xff 0xff 0x0f",
	}
	from := map[string]string{
		"1": "1", "2": "2", "100": "100", "127": "127", "128": "0x80 1", "171": "0xab 1", "255": "0xff 1", "300": "0xac 2", "16383": "0xff 0x7f", "16384": "0x80 0x80 1", "1431655766": "0xd6 0xaa 0xd5 0xaa 5", "most": "0xff 0xff 0xff 0xff 7",
	}
	scales := map[string]string{
		"2147483648": "0x80 0x80 0x80 0x80 8", "4611686018427387903": "0xff 0xff 0xff 0xff 0xff 0xff 0xff 0xff 0x3f", "4611686018427387904": "0x80 0x80 0x80 0x80 0x80 0x80 0x80 0x80 0x40",
	}
	for k, want := range signed {
		writes(t, coded("num "+k), octets("1 0 8 1, 1 "+want+", 0"))
		writes(t, coded("place 3; mulk 0 "+k), octets("1 0 8 2, 3 3, 32 0 "+want+", 0"))
	}
	for k, want := range from {
		writes(t, coded("place 3; andk 0 "+k), octets("1 0 8 2, 3 3, 31 0 "+want+", 0"))
		scales[k] = want
	}
	writes(t, coded("place 3; andk 0 0"), octets("1 0 8 2, 3 3, 31 0 0, 0"))
	for k, want := range scales {
		for s := range 63 {
			writes(t, coded(fmt.Sprint("place 3; muls 0 ", k, " ", s)), octets(fmt.Sprint("1 0 8 2, 3 3, 33 0 ", want, " ", s, ", 0")))
		}
	}
}

// A constant that is a byte is one, also above 127.
func TestConstantsThatAreBytes(t *testing.T) {
	for k := range 256 {
		writes(t, coded(fmt.Sprint("place ", k)), []byte{1, 0, 8, 1, 3, byte(k), 0})
		if k <= 5 {
			writes(t, coded(fmt.Sprint("in ", k)), []byte{1, 0, 8, 1, 2, byte(k), 0})
		}
		if k <= 31 {
			writes(t, coded(fmt.Sprint("num 0; shlk 0 ", k)), []byte{1, 0, 8, 2, 1, 0, 29, 0, byte(k), 0})
			writes(t, coded(fmt.Sprint("num 0; shrk 0 ", k)), []byte{1, 0, 8, 2, 1, 0, 30, 0, byte(k), 0})
		}
	}
}

// The registers near and far, of each operator that reads some: the first one, that just ahead, and those around the places where the number grows by a byte.
func TestRegisters(t *testing.T) {
	for _, name := range all {
		for _, i := range []int{1, 2, 3, 127, 128, 129, 130, 131, 199} {
			for _, a := range []int{0, 1, i / 2, i - 130, i - 129, i - 128, i - 2, i - 1} {
				list := []int{a, i - 1 - a, 0}
				if readsOf(name) == 0 || a < 0 || a >= i {
					continue
				}
				want := slices.Concat([]byte{1, 0, 8}, short(i+1), noughts(i), []byte{byte(slices.Index(names, name))})
				for _, r := range list[:readsOf(name)] {
					want = append(want, short(i-1-r)...)
				}
				for j, way := range ways[name] {
					want = append(want, field{way, bounds[name][0][j]}.bytes()...)
				}
				c := api.Code{Kind: image, Insts: append(flat(i), of(name, list...)), Out: i}
				if b, e := encoded(t, c); e != api.OK || !bytes.Equal(b, append(want, 0)) {
					t.Errorf("%s as number %d, of %v: %s, %d", name, i, list, hexed(b), e)
				}
				decoded(t, append(want, 0))
			}
		}
	}
}

func TestKinds(t *testing.T) {
	for form := range 2 {
		for depth := 1; depth <= 16; depth++ {
			k := api.Kind{Form: form, Depth: depth}
			writes(t, codedFor(k, "num 1"), []byte{1, byte(form), byte(depth), 1, 1, 2, 0})
			writes(t, codedFor(k, "in 3; place 16; sub 0 1; out 1"), []byte{1, byte(form), byte(depth), 3, 2, 3, 3, 16, 9, 1, 0, 1})
		}
	}
}

// Of every length, and with Out at each place of some of them.
func TestLengthsAndOut(t *testing.T) {
	for count := 1; count <= 200; count++ {
		outs := []int{0, count / 2, count - 1}
		if slices.Contains([]int{1, 2, 3, 4, 5, 128, 129, 130, 200}, count) {
			outs = nil
			for out := range count {
				outs = append(outs, out)
			}
		}
		for _, out := range outs {
			c := api.Code{Kind: sound, Insts: flat(count), Out: out}
			want := slices.Concat([]byte{1, 1, 16}, short(count), noughts(count), short(count-1-out))
			if b, e := encoded(t, c); e != api.OK || !bytes.Equal(b, want) {
				t.Errorf("%d instructions, out %d: %s, %d", count, out, hexed(b), e)
			}
			if d, e := decoded(t, want); e != api.OK || !code.Same(c, d) {
				t.Errorf("%d instructions, out %d are read as %s, %d", count, out, shown(d), e)
			}
		}
	}
}

// Whether a code is harmless isn't asked.
func TestHarmfulCodes(t *testing.T) {
	for text, want := range map[string]api.Errno{
		"place 44": api.ErrAhead, "place 255; num 1": api.ErrAhead, "num 0; div 0 0": api.ErrDivZero, "num 1; num 0; mod 0 1; out 0": api.ErrDivZero, "num most; add 0 0": api.ErrOverflow, "num 1; shlk 0 31; out 0": api.ErrOverflow,
		"num 1" + strings.Repeat("; div 0 0", 50): api.ErrCost, "num 1" + strings.Repeat("; mod 0 0", 199): api.ErrCost,
	} {
		c := coded(text)
		if _, e := verify.Verify(c); e != want {
			t.Fatalf("Verify(%s) = %d", text, e)
		}
		writes(t, c, bytesOf(c))
	}
}

// The longest bytes that a code has: the most instructions, each with the most bytes that one of its number may have.
func TestLongest(t *testing.T) {
	c := coded("num least" + strings.Repeat("; muls 0 4611686018427387904 62", 199) + "; out 0")
	want := octets("1 0 8 0xc8 1, 1 0xff 0xff 0xff 0xff 0x0f")
	for i := 1; i < 200; i++ {
		want = slices.Concat(want, []byte{33}, short(i-1), octets("0x80 0x80 0x80 0x80 0x80 0x80 0x80 0x80 0x40 62"))
	}
	want = append(want, short(199)...)
	writes(t, c, want)
	if len(want) != 2472 || api.MaxCode != 4096 {
		t.Errorf("%d bytes of %d", len(want), api.MaxCode)
	}
	for _, name := range all {
		for _, by := range bounds[name] {
			n := of(name, 0, 0, 0)
			copyConstants(&n, by)
			b, e := encoded(t, api.Code{Kind: image, Insts: append(flat(199), n)})
			if size := len(b) - 3 - 2 - 2*199 - 2; e != api.OK || size > 13 {
				t.Errorf("%v as the last one: %d bytes, %d", n, size, e)
			}
		}
	}
}

// copyConstants writes constants into an instruction.
func copyConstants(n *api.Inst, by []int) {
	for i, k := range by {
		*[]*int{&n.K, &n.S}[i] = k
	}
}

// 19.1: code.Check's error

// wrongInsts are instructions that may not be the third one, behind two numbers.
func wrongInsts() []api.Inst {
	// A field that the operator hasn't isn't 0.
	list := []api.Inst{
		{Op: api.OpNum, A: 1}, {Op: api.OpNum, S: 1}, {Op: api.OpIn, C: 1}, {Op: api.OpIn, S: -1}, {Op: api.OpPlace, B: -1}, {Op: api.OpPlace, S: 1}, {Op: api.OpNeg, B: 1}, {Op: api.OpAbs, C: 1}, {Op: api.OpAdd, C: 1}, {Op: api.OpAdd, K: 1}, {Op: api.OpSel, S: 1}, {Op: api.OpMed, K: -1},
		{Op: api.OpMulK, S: 1}, {Op: api.OpShlK, S: 1}, {Op: api.OpShrK, S: 62}, {Op: api.OpAndK, S: 1}, {Op: api.OpAndK, B: 1}, {Op: api.OpMulS, K: 1, C: 1}, {Op: api.OpMulS, K: 1, B: -1},
	}
	for _, text := range []string{
		"neg 2", "neg 3", "neg -1", "add 0 2", "add 2 0", "sub 1 -1", "sel 0 0 2", "sel 0 2 0", "sel 2 0 0", "med 0 1 -1", "clamp 0 -1 0", "use 0 0", "muls 2 1 0", "andk -1 0",
		"num 2147483648", "num -2147483649", "in 6", "in -1", "place 256", "place -1", "shlk 0 32", "shlk 0 -1", "shrk 0 32", "shrk 0 -1", "andk 0 -1", "andk 0 2147483648", "mulk 0 2147483648", "mulk 0 -2147483649",
		"muls 0 0 0", "muls 0 -1 0", "muls 0 4611686018427387905 0", "muls 0 1 63", "muls 0 1 -1", "muls 0 1 256", "shlk 0 256", "shrk 0 287", "place 512", "in 258",
	} {
		list = append(list, inst(text))
	}
	for _, op := range append([]int{-1, 0, api.OpUse, api.OpMulS + 1, 256, 257, 256 + api.OpAdd, 1<<32 + api.OpNum, 1<<32 + api.OpAdd}, far...) {
		list = append(list, api.Inst{Op: op}, api.Inst{Op: op, A: 1})
	}
	for _, x := range far {
		list = append(list, api.Inst{Op: api.OpNum, K: x}, api.Inst{Op: api.OpNeg, A: x}, api.Inst{Op: api.OpSel, C: x}, api.Inst{Op: api.OpPlace, K: x}, api.Inst{Op: api.OpShlK, K: x}, api.Inst{Op: api.OpAndK, K: x}, api.Inst{Op: api.OpMulS, K: 1, S: x})
	}
	return list
}

func TestCodesThatMayNotBe(t *testing.T) {
	refusedCode(t, api.Code{})
	refusedCode(t, api.Code{Kind: image})
	refusedCode(t, api.Code{Kind: image, Insts: []api.Inst{}})
	refusedCode(t, api.Code{Kind: image, Insts: flat(201)})
	refusedCode(t, api.Code{Kind: image, Insts: flat(1 << 18)})
	for _, k := range []api.Kind{{}, {Form: 2, Depth: 8}, {Form: -1, Depth: 8}, {Form: 0, Depth: 0}, {Form: 1, Depth: 17}, {Form: 1, Depth: -1}, {Form: 256, Depth: 8}, {Form: 1, Depth: 264}, {Form: 1 << 32, Depth: 8}} {
		refusedCode(t, codedFor(k, "num 1"))
		refusedCode(t, codedFor(k, "num 2; num 3; mul 1 0; out 1"))
	}
	for _, out := range append([]int{-1, -2, 3, 4, 200, 255, 256}, far...) {
		refusedCode(t, api.Code{Kind: image, Insts: coded("num 1; num 2; add 0 1").Insts, Out: out})
	}
	for _, n := range wrongInsts() {
		refusedCode(t, api.Code{Kind: image, Insts: []api.Inst{{Op: api.OpNum}, {Op: api.OpNum}, n}, Out: 2})
		refusedCode(t, api.Code{Kind: sound, Insts: []api.Inst{{Op: api.OpNum}, {Op: api.OpNum}, n, {Op: api.OpNum}}, Out: 0})
	}
	// The first instruction reads none.
	for _, name := range all {
		if readsOf(name) > 0 {
			refusedCode(t, api.Code{Kind: image, Insts: []api.Inst{of(name, 0, 0, 0)}})
		}
	}
}

// 19.2: ErrLimit

func TestTooManyBytes(t *testing.T) {
	good := bytesOf(coded("place 16; num -2; mul 0 1"))
	for _, b := range [][]byte{good, good[:5], octets("2"), octets("1 0 8 0"), octets("1 0 8 1 5 0"), octets("1 0 8 1 200"), octets("1 2 8 1 1 0 0"), octets("1 0 8 0xc8 1"), octets("1 0 8 0x80"), octets("1 0 8 0x80 0"), {}} {
		for _, fill := range []byte{0, 1, 0x80, 0xff} {
			full := slices.Concat(b, bytes.Repeat([]byte{fill}, 4096-len(b)))
			if _, e := decoded(t, full); e == api.ErrLimit || e == api.OK {
				t.Errorf("%s: %d", hexed(full), e)
			}
			refused(t, append(full, fill), api.ErrLimit)
			refused(t, append(full, good...), api.ErrLimit)
			refused(t, append(full, full...), api.ErrLimit)
		}
	}
	refused(t, slices.Concat(good, make([]byte, 4096-len(good))), api.ErrTail)
	refused(t, make([]byte, 4096), api.ErrForm)
	refused(t, make([]byte, 4097), api.ErrLimit)
	refused(t, make([]byte, 1<<22), api.ErrLimit)
	refused(t, bytes.Repeat([]byte{1}, 1<<16), api.ErrLimit)
}

// 19.2: ErrShort and ErrTail

func TestShort(t *testing.T) {
	refused(t, nil, api.ErrShort)
	refused(t, []byte{}, api.ErrShort)
	// Each of the parts that are missing behind what is right.
	for _, text := range []string{"1", "1 0", "1 0 8", "1 0 8 0x81", "1 0 8 1", "1 0 8 1 1", "1 0 8 1 1 0x80", "1 0 8 1 1 0", "1 0 8 1 2", "1 0 8 1 3", "1 0 8 2 1 0 29", "1 0 8 2 1 0 29 0", "1 0 8 2 1 0 31 0", "1 0 8 2 1 0 31 0 0x80", "1 0 8 2 1 0 33 0", "1 0 8 2 1 0 33 0 1", "1 0 8 2 1 0 33 0 1 0", "1 0 8 2 1 0 28 0", "1 0 8 2 1 0 28 0 0"} {
		refused(t, octets(text), api.ErrShort)
	}
}

func TestTail(t *testing.T) {
	for _, text := range samples {
		b := bytesOf(coded(text))
		for _, tail := range []string{"0", "1", "0x80", "0xff", "0 0", "1 0 8 1 1 0 0", "0xff 0xff 0xff 0xff 0xff 0xff 0xff 0xff 0xff 2"} {
			refused(t, append(slices.Clone(b), octets(tail)...), api.ErrTail)
		}
		refused(t, slices.Concat(b, b), api.ErrTail)
	}
}

// samples are codes of {Image, 8}, among them one with each operator.
var samples = []string{
	"num 1", "in 5", "place 200", "num -70; neg 0", "place 1; place 2; place 3; med 0 1 2", "num 300; num -300; add 0 1; out 1", "place 16; muls 0 171 9; andk 1 200; mulk 2 -100; shlk 3 31; shrk 4 30", "num 1; num 2; num 3; sel 0 1 2; clamp 3 3 0; med 4 1 0; out 3",
	"num most; num least; abs 0; sgn 1; add 1 2; sub 2 3; mul 3 4; div 4 5; mod 5 6; shl 6 7; shr 7 8; and 8 9; or 9 10; xor 10 11; lt 11 12; le 12 13; gt 13 14; ge 14 15; eq 15 16; ne 16 17; min 17 18; max 18 19; out 4",
	"num 0" + strings.Repeat("; sub 0 0", 140) + "; sel 0 11 140; muls 1 4611686018427387904 62; out 1",
}

// 19.2: ErrForm, behind the first byte

func TestFirstByte(t *testing.T) {
	good := bytesOf(coded("place 16; num -2; mul 0 1"))
	for x := range 256 {
		if x == 1 {
			continue
		}
		for _, rest := range [][]byte{nil, {0}, good[1:], good, good[1:5], {2, 0, 0}, {0, 8, 0}, {0, 8, 0xc9, 1}, {0, 8, 0x80, 0}, {0, 8, 1, 5, 0}, append(slices.Clone(good[1:]), 7)} {
			refused(t, slices.Concat([]byte{byte(x)}, rest), api.ErrForm)
		}
	}
}

// 19.2: ErrCode, behind the number of instructions

func TestNumberOfInstructions(t *testing.T) {
	tails := [][]byte{nil, {0}, {0xff}, {1, 0, 0}, noughts(150), bytes.Repeat([]byte{0x80}, 300)}
	for n, row := range map[string]api.Errno{
		"0": api.ErrCode, "0xc9 1": api.ErrCode, "0xca 1": api.ErrCode, "0xff 1": api.ErrCode, "0x80 2": api.ErrCode, "0x81 2": api.ErrCode, "0x81 0x80 4": api.ErrCode, "0x81 0x80 0x80 0x80 0x10": api.ErrCode, "0xff 0xff 0xff 0xff 0xff 0xff 0xff 0xff 0x7f": api.ErrCode,
		"0x80 0": api.ErrForm, "0x81 0": api.ErrForm, "0x83 0x80 0": api.ErrForm, "0x80 0x80 0x80 0x80 0x80 0x80 0x80 0x80 0x80 1": api.ErrForm, "0xff 0xff 0xff 0xff 0xff 0xff 0xff 0xff 0xff 1": api.ErrForm,
		"0x81 0x80 0x80 0x80 0x80 0x80 0x80 0x80 0x80 2": api.ErrForm, "0xff 0xff 0xff 0xff 0xff 0xff 0xff 0xff 0xff 0xff": api.ErrForm,
	} {
		for _, tail := range tails {
			for _, ahead := range []string{"1 0 8 ", "1 1 16 ", "1 2 8 ", "1 0 0 ", "1 255 255 "} {
				refused(t, append(octets(ahead+n), tail...), row)
			}
		}
	}
	// 1 and 200 may be.
	for _, n := range []int{1, 127, 128, 200} {
		b := slices.Concat([]byte{1, 0, 8}, short(n), noughts(n), []byte{0})
		if c, e := decoded(t, b); e != api.OK || len(c.Insts) != n {
			t.Errorf("%d instructions are read as %s, %d", n, shown(c), e)
		}
		refused(t, slices.Concat([]byte{1, 0, 8}, short(n), noughts(n)), api.ErrShort)
	}
}

// 19.2: numbers in other forms, wherever one stands

func TestNumbersInOtherForms(t *testing.T) {
	nines := bytes.Repeat([]byte{0xff}, 9)
	for _, text := range samples {
		list := fieldsOf(coded(text))
		for at, f := range list {
			if f.way == 'b' {
				continue
			}
			longer := f.bytes()
			longer[len(longer)-1] |= 0x80
			wrong := [][]byte{append(slices.Clone(longer), 0), append(slices.Clone(longer), 0x80, 0), append(slices.Clone(nines), 2), append(slices.Clone(nines), 0x7f), append(slices.Clone(nines), 0x80, 0), bytes.Repeat([]byte{0x80}, 12)}
			if f.way == 'u' {
				wrong = append(wrong, append(slices.Clone(nines), 1), append(bytes.Repeat([]byte{0x80}, 9), 1))
			}
			for _, b := range wrong {
				refused(t, put(list, at, b), api.ErrForm)
				// It comes about at once: what stands behind isn't looked at.
				refused(t, append(put(list[:at], -1, nil), b...), api.ErrForm)
			}
			// Such as are in their form, but too great for a code.
			refused(t, put(list, at, append(slices.Clone(nines[1:]), 0x7f)), api.ErrCode)
			if f.way == 'i' {
				refused(t, put(list, at, append(slices.Clone(nines), 1)), api.ErrCode)
				refused(t, put(list, at, append(slices.Clone(nines[1:]), 0x7e)), api.ErrCode)
			}
		}
	}
}

// 19.2: ErrCode, behind a register that is too far ahead

// tooFar asks for ErrCode of a number that says how far a register stands ahead, if it is from least on, whatever stands behind it.
func tooFar(t *testing.T, ahead []byte, least int, behind []byte) {
	t.Helper()
	for _, x := range []int{least, least + 1, 127, 128, 199, 200, 255, 256, 16384, 1 << 31, 1 << 32, 1<<32 + 1, 1 << 62, math.MaxInt - 1, math.MaxInt} {
		if x < least {
			continue
		}
		b := slices.Concat(ahead, field{'u', x}.bytes())
		refused(t, b, api.ErrCode)
		refused(t, slices.Concat(b, behind), api.ErrCode)
		refused(t, slices.Concat(b, behind, []byte{7}), api.ErrCode)
		refused(t, append(slices.Clone(b), 0x80, 0), api.ErrCode)
	}
	refused(t, slices.Concat(ahead, octets("0x80 0x80 0x80 0x80 0x80 0x80 0x80 0x80 0x80 1"), behind), api.ErrForm)
}

func TestRegistersTooFar(t *testing.T) {
	for _, name := range all {
		for _, i := range []int{0, 1, 2, 127, 128, 129, 199} {
			for part := range readsOf(name) {
				ahead := slices.Concat([]byte{1, 0, 8}, short(i+1), noughts(i), []byte{byte(slices.Index(names, name))}, make([]byte, part))
				behind := append(make([]byte, readsOf(name)-part-1), 0)
				for j, way := range ways[name] {
					behind = append(behind, field{way, bounds[name][0][j]}.bytes()...)
				}
				if part == 0 || i > 0 {
					tooFar(t, ahead, i, behind)
				}
				if i > 0 {
					list := []int{i - 1, i - 1, i - 1}
					list[part] = 0
					encoded(t, api.Code{Kind: image, Insts: append(flat(i), of(name, list...)), Out: i})
				}
			}
		}
	}
}

func TestOutTooFar(t *testing.T) {
	for _, count := range []int{1, 2, 3, 127, 128, 129, 200} {
		ahead := slices.Concat([]byte{1, 1, 8}, short(count), noughts(count))
		tooFar(t, ahead, count, nil)
		if c, e := decoded(t, append(slices.Clone(ahead), short(count-1)...)); e != api.OK || c.Out != 0 {
			t.Errorf("out %d ahead of %d is read as %s, %d", count-1, count, shown(c), e)
		}
	}
}

// 19.2: an Op that is none

func TestNoOperator(t *testing.T) {
	for op := range 256 {
		if op < len(names) && slices.Contains(all, names[op]) {
			continue
		}
		b := []byte{byte(op)}
		for i, row := range []struct {
			ahead, behind string
			want          api.Errno
		}{
			// The one instruction: neither registers nor constants stand behind it.
			{"1 0 8 1", "0", api.ErrCode}, {"1 0 8 1", "", api.ErrShort}, {"1 0 8 1", "0 0", api.ErrTail}, {"1 0 8 1", "0x80", api.ErrShort}, {"1 0 8 1", "0x80 0", api.ErrForm}, {"1 0 8 1", "1", api.ErrCode}, {"1 0 8 1", "1 0", api.ErrCode},
			// The first, the middle and the last one of three.
			{"1 0 8 3", "1 2 5 0 0", api.ErrCode}, {"1 0 8 3", "1 2 5 0 0 0", api.ErrTail}, {"1 0 8 3", "1 2 5 0", api.ErrShort}, {"1 0 8 3", "1 2 5 2 0", api.ErrCode}, {"1 0 8 3", "1 2 5 1", api.ErrShort}, {"1 0 8 3", "1 0x80 0", api.ErrForm},
			{"1 0 8 3 1 0", "8 0 1 2", api.ErrCode}, {"1 0 8 3 1 0", "8 0 1", api.ErrShort}, {"1 0 8 3 1 0", "8 0 1 2 9", api.ErrTail}, {"1 0 8 3 1 0", "8 0 2 9", api.ErrCode}, {"1 0 8 3 1 0", "8 0 1 0x81 0", api.ErrForm},
			{"1 0 8 3 1 0 7 0", "2", api.ErrCode}, {"1 0 8 3 1 0 7 0", "2 1", api.ErrTail}, {"1 0 8 3 1 0 7 0", "", api.ErrShort},
			// The code may not be for another reason too.
			{"1 2 8 1", "0", api.ErrCode}, {"1 0 17 1", "0 5", api.ErrTail},
		} {
			if c, e := decoded(t, slices.Concat(octets(row.ahead), b, octets(row.behind))); e != row.want || !zero(c) {
				t.Errorf("the byte %d, row %d: %s, %d, not %d", op, i, shown(c), e, row.want)
			}
		}
	}
}

// Codes of nothing but such.
func TestNoOperators(t *testing.T) {
	for _, op := range []byte{0, 4, 34, 0x80, 0xff} {
		ahead := slices.Concat([]byte{1, 0, 8, 0xc8, 1}, bytes.Repeat([]byte{op}, 200))
		refused(t, ahead, api.ErrShort)
		refused(t, append(slices.Clone(ahead), 0), api.ErrCode)
		refused(t, append(slices.Clone(ahead), 0xc7, 1), api.ErrCode)
		refused(t, append(slices.Clone(ahead), 0xc8, 1, 0), api.ErrCode)
		refused(t, append(slices.Clone(ahead), 0xc7, 1, 0), api.ErrTail)
	}
}

// 19.2: ErrCode, if the code may not be

func TestDecodedCodesThatMayNotBe(t *testing.T) {
	list := []string{
		"1 2 8 1 1 0 0", "1 255 8 1 1 0 0", "1 128 8 1 1 0 0", "1 0 0 1 1 0 0", "1 0 17 1 1 0 0", "1 1 0 1 1 0 0", "1 1 17 1 1 0 0", "1 1 255 1 1 0 0", "1 1 136 1 1 0 0",
		"1 0 8 1 1 0x80 0x80 0x80 0x80 0x10 0", "1 0 8 1 1 0x81 0x80 0x80 0x80 0x10 0", "1 0 8 1 1 0x80 0x80 0x80 0x80 0x20 0", "1 0 8 1 1 0xff 0xff 0xff 0xff 0xff 0xff 0xff 0xff 0xff 1 0", "1 0 8 1 2 6 0", "1 0 8 1 2 255 0", "1 0 8 1 2 128 0",
		"1 0 8 2 1 0 29 0 32 0", "1 0 8 2 1 0 29 0 255 0", "1 0 8 2 1 0 30 0 32 0", "1 0 8 2 1 0 30 0 128 0", "1 0 8 2 1 0 31 0 0x80 0x80 0x80 0x80 8 0", "1 0 8 2 1 0 31 0 0xff 0xff 0xff 0xff 0xff 0xff 0xff 0xff 0x7f 0",
		"1 0 8 2 1 0 32 0 0x80 0x80 0x80 0x80 0x10 0", "1 0 8 2 1 0 32 0 0x81 0x80 0x80 0x80 0x10 0", "1 0 8 2 1 0 33 0 0 0 0", "1 0 8 2 1 0 33 0 1 63 0", "1 0 8 2 1 0 33 0 1 255 0", "1 0 8 2 1 0 33 0 0x81 0x80 0x80 0x80 0x80 0x80 0x80 0x80 0x40 0 0",
		"1 0 8 3 1 0 29 0 32 1 0 2", "1 0 8 3 2 6 1 0 1 0 0", "1 0 8 1 0 0", "1 0 8 2 4 1 0 0",
	}
	for _, text := range list {
		b := octets(text)
		refused(t, b, api.ErrCode)
		refused(t, append(slices.Clone(b), 0), api.ErrTail)
		refused(t, slices.Concat(b, b), api.ErrTail)
		refused(t, b[:len(b)-1], api.ErrShort)
		// Out isn't in its one form, and stands too far ahead.
		refused(t, append(slices.Clone(b[:len(b)-1]), 0x80, 0), api.ErrForm)
		refused(t, append(slices.Clone(b[:len(b)-1]), 0xff, 0x7f, 9), api.ErrCode)
	}
}

// 19.2: which of two comes first

func TestTheFirstError(t *testing.T) {
	for text, want := range map[string]api.Errno{
		// The first byte, and any other.
		"0": api.ErrForm, "2 2": api.ErrForm, "0 0 8 0": api.ErrForm, "0x80 0": api.ErrForm, "3 0 8 1 1 0 0 0": api.ErrForm, "255 0 8 1 5 0": api.ErrForm,
		// The number of instructions, and a kind that may not be ahead of it, or whatever behind it.
		"1 2": api.ErrShort, "1 2 0": api.ErrShort, "1 2 0 0": api.ErrCode, "1 2 0 0x80 0": api.ErrForm, "1 0 8 0 0": api.ErrCode, "1 0 8 0xc9 1 0x80 0": api.ErrCode, "1 0 8 0x80 0 0": api.ErrForm, "1 0 8 0 0 0 0 0 0": api.ErrCode,
		// A kind that may not be, and what comes about behind it.
		"1 2 8 1 1": api.ErrShort, "1 2 8 1 1 0x80 0": api.ErrForm, "1 0 17 1 1 0x80 0 0": api.ErrForm, "1 2 8 1 1 0 0 0": api.ErrTail, "1 2 8 1 1 0": api.ErrShort,
		// A register too far ahead, and what comes about behind it.
		"1 0 8 2 1 0 5 1": api.ErrCode, "1 0 8 2 1 0 8 1": api.ErrCode, "1 0 8 2 1 0 8 1 0x80 0": api.ErrCode, "1 0 8 2 1 0 8 0x80 0 1": api.ErrForm, "1 0 8 2 1 0 8 0 1 0x80 0": api.ErrCode, "1 0 8 2 5 0 1 0x80 0": api.ErrCode, "1 0 8 1 5 0": api.ErrCode, "1 0 8 1 5": api.ErrShort, "1 0 8 1 5 0x80": api.ErrShort, "1 0 8 1 5 0x80 0": api.ErrForm,
		"1 0 8 2 1 0x80 0 5 1 0": api.ErrForm, "1 0 8 2 1 0 29 1 0x80": api.ErrCode, "1 0 8 2 1 0 31 1 0x80 0": api.ErrCode, "1 0 8 2 1 0 31 0 0x80 0 1": api.ErrForm, "1 0 8 2 1 0 33 1": api.ErrCode, "1 0 8 2 1 0 33 0 0x80 0": api.ErrForm,
		// A constant that may not be, and what comes about behind it.
		"1 0 8 2 2 6 5": api.ErrShort, "1 0 8 2 2 6 5 1": api.ErrCode, "1 0 8 2 2 6 5 0x80 0": api.ErrForm, "1 0 8 2 2 6 1 0x80 0 0": api.ErrForm, "1 0 8 1 2 6 0 0": api.ErrTail, "1 0 8 1 2 6": api.ErrShort, "1 0 8 2 1 0 33 0 0": api.ErrShort, "1 0 8 2 1 0 33 0 0 99 0x80 0": api.ErrForm,
		// An Op that is none, and what comes about behind it.
		"1 0 8 2 200": api.ErrShort, "1 0 8 2 200 5": api.ErrShort, "1 0 8 2 200 5 1": api.ErrCode, "1 0 8 2 200 5 1 0 0": api.ErrCode, "1 0 8 2 200 5 0x80 0": api.ErrForm, "1 0 8 2 200 201 0 0": api.ErrTail, "1 0 8 2 200 201 0": api.ErrCode, "1 0 8 2 200 201 2 0": api.ErrCode,
		// Out, and what is left over.
		"1 0 8 1 1 0 1 0": api.ErrCode, "1 0 8 1 1 0 0x80 0 0": api.ErrForm, "1 0 8 1 1 0 0x80": api.ErrShort, "1 0 8 1 1 0 0x81 1 7": api.ErrCode, "1 0 8 1 1 0 0 7": api.ErrTail,
	} {
		refused(t, octets(text), want)
	}
	// More bytes than may be, and any other.
	for _, text := range []string{"2", "1 2 0 0", "1 0 8 0", "1 0 8 0x80 0", "1 0 8 1 5 0", "1 0 8 1 1 0 0", "1 0 8 1 200 0"} {
		refused(t, append(octets(text), make([]byte, 4097)...), api.ErrLimit)
	}
}

// 19.3

// sketch draws a code that may be: of any operators, or of few.
func sketch(next func(int) int, count int) api.Code {
	c := api.Code{Kind: api.Kind{Form: next(2), Depth: 1 + next(16)}, Out: next(count)}
	few := all
	if next(3) == 0 {
		few = []string{"num", all[next(len(all))], all[next(len(all))]}
	}
	for i := range count {
		name := few[next(len(few))]
		if i == 0 {
			name = []string{"num", "in", "place"}[next(3)]
		}
		register := func() int {
			near := min(max(i, 1), []int{2, 5, 200}[next(3)])
			return max(i-1-next(near), 0)
		}
		n := of(name, register(), register(), register())
		var by []int
		for j, low := range bounds[name][0] {
			by = append(by, between(next, low, bounds[name][1][j]))
		}
		copyConstants(&n, by)
		c.Insts = append(c.Insts, n)
	}
	return c
}

// between draws a number from low to high: an end, one near to 0, or any.
func between(next func(int) int, low, high int) int {
	switch next(5) {
	case 0:
		return low
	case 1:
		return high
	case 2:
		return max(low, min(high, next(400)-200))
	case 3:
		return max(low, min(high, 1<<next(62)-next(2)))
	}
	return low + next(min(high-low, math.MaxInt-1)+1)
}

func TestDrawnCodes(t *testing.T) {
	next := draw(11)
	used := map[string]int{}
	for i := range 4000 {
		count := 1 + next(12)
		if i%20 == 0 {
			count = 1 + next(200)
		}
		c := sketch(next, count)
		for _, n := range c.Insts {
			used[names[n.Op]]++
		}
		if count <= 12 {
			writes(t, c, bytesOf(c))
			continue
		}
		b, e := encoded(t, c)
		if e != api.OK {
			t.Errorf("Encode(%s): %d", shown(c), e)
			continue
		}
		for range 20 {
			refused(t, b[:next(len(b))], api.ErrShort)
		}
		refused(t, append(b, byte(next(256))), api.ErrTail)
	}
	for _, name := range all {
		if used[name] < 200 {
			t.Errorf("%s was used %d times", name, used[name])
		}
	}
}

// counted asks that each error came so often.
func counted(t *testing.T, got, least map[api.Errno]int) {
	t.Helper()
	for e, n := range least {
		if got[e] < n {
			t.Errorf("the answer %d came %d times", e, got[e])
		}
	}
}

// Each byte of a code's as each other one, left out, and with any ahead of it.
func TestOneByteChanged(t *testing.T) {
	got := map[api.Errno]int{}
	for _, text := range samples[:len(samples)-1] {
		b := bytesOf(coded(text))
		for at := range b {
			for x := range 256 {
				changed := slices.Clone(b)
				changed[at] = byte(x)
				_, e := decoded(t, changed)
				got[e]++
				_, e = decoded(t, slices.Insert(slices.Clone(b), at, byte(x)))
				got[e]++
			}
			_, e := decoded(t, slices.Delete(slices.Clone(b), at, at+1))
			got[e]++
		}
	}
	counted(t, got, map[api.Errno]int{api.OK: 1000, api.ErrShort: 5000, api.ErrForm: 500, api.ErrCode: 10000, api.ErrTail: 500})
}

// All byte strings of some lengths and bytes.
func TestAllShortStrings(t *testing.T) {
	got := map[api.Errno]int{}
	walk := func(ahead string, alphabet []byte, most int) {
		level := [][]byte{octets(ahead)}
		for ; most >= 0; most-- {
			var longer [][]byte
			for _, b := range level {
				_, e := decoded(t, b)
				got[e]++
				for _, x := range alphabet {
					if most > 0 {
						longer = append(longer, append(slices.Clip(b), x))
					}
				}
			}
			level = longer
		}
	}
	var every []byte
	for x := range 256 {
		every = append(every, byte(x))
	}
	walk("", every, 2)
	walk("1 0 8", every, 2)
	walk("1 0 8 1 1", every, 2)
	walk("1 1 16 1", []byte{0, 1, 2, 3, 4, 5, 33, 0x80, 0xff}, 5)
	walk("1 0 8 2 1 0", []byte{0, 1, 2, 5, 8, 29, 31, 33, 62, 63, 0x80}, 4)
	walk("1 0 8 2 1 0 33", []byte{0, 1, 2, 62, 63, 0x80}, 6)
	walk("1 0 8 3", []byte{0, 1, 7, 9, 0x80}, 7)
	counted(t, got, map[api.Errno]int{api.OK: 500, api.ErrShort: 10000, api.ErrForm: 10000, api.ErrCode: 10000, api.ErrTail: 1000})
}

// Drawn fields behind one another, most of them such as a code has, and drawn bytes.
func TestDrawnBytes(t *testing.T) {
	next := draw(13)
	got := map[api.Errno]int{}
	for i := range 60000 {
		list := fieldsOf(sketch(next, 1+next(8)))
		if i%200 == 0 {
			list = fieldsOf(sketch(next, 1+next(200)))
		}
		for range next(3) {
			at := next(len(list))
			list[at].n = []int{0, 1, 2, 3, 4, 5, 6, 31, 32, 34, 62, 63, 127, 128, 200, 201, 255, 256, 1 << 31, 1<<62 + 1, math.MaxInt, -1, least}[next(23)]
		}
		b := put(list, -1, nil)
		switch next(12) {
		case 0:
			b = b[:next(len(b))]
		case 1:
			b = append(b, byte(next(256)))
		case 2:
			b[next(len(b))] = byte(next(256))
		case 3:
			b[next(len(b))] |= 0x80
		case 4:
			b = b[:min(len(b), 4)]
			for range next(40) {
				b = append(b, byte(next(1<<(1+next(8)))))
			}
		}
		_, e := decoded(t, b)
		got[e]++
	}
	counted(t, got, map[api.Errno]int{api.OK: 10000, api.ErrShort: 2000, api.ErrForm: 2000, api.ErrCode: 5000, api.ErrTail: 2000})
}

// P1

// Codes of any numbers: whatever they are, there is an answer.
func TestWildCodes(t *testing.T) {
	next := draw(17)
	number := func() int {
		switch next(4) {
		case 0, 1:
			return 0
		case 2:
			return next(8) - 1
		}
		return append([]int{least, most, 1 << 31, 1 << 62, 255, 256}, far...)[next(6+len(far))]
	}
	got := map[api.Errno]int{}
	for range 30000 {
		c := api.Code{Kind: api.Kind{Form: next(3), Depth: next(18)}}
		for range next(5) {
			c.Insts = append(c.Insts, api.Inst{Op: next(40) - 2, A: number(), B: number(), C: number(), K: number(), S: number()})
		}
		if next(3) == 0 {
			c.Out = number()
		}
		_, e := encoded(t, c)
		got[e]++
		d := sketch(next, 1+next(6))
		n := &d.Insts[next(len(d.Insts))]
		*[]*int{&n.Op, &n.A, &n.B, &n.C, &n.K, &n.S, &d.Out, &d.Kind.Form, &d.Kind.Depth}[next(9)] = number()
		_, e = encoded(t, d)
		got[e]++
	}
	counted(t, got, map[api.Errno]int{api.OK: 2000, api.ErrCode: 20000})
}

func TestEncodeAnswersNewMemory(t *testing.T) {
	var last [][]byte
	for _, text := range samples {
		c, stands := roomy(coded(text))
		one, _ := pack.Encode(c)
		two, _ := pack.Encode(c)
		want, _ := modelEncode(coded(text))
		room := one[:cap(one)]
		for i := range room {
			room[i] = 0xee
		}
		if !bytes.Equal(two, want) || !stands() {
			t.Errorf("%s: an answer shares memory with another one or with the code", text)
		}
		three, e := pack.Encode(c)
		if e != api.OK || !bytes.Equal(three, want) {
			t.Errorf("%s: what was written into an answer is seen: %s, %d", text, hexed(three), e)
		}
		for i := range c.Insts {
			c.Insts[i] = api.Inst{Op: -1, A: -1, K: -1}
		}
		last = append(last, three)
	}
	for i, text := range samples {
		if want := bytesOf(coded(text)); !bytes.Equal(last[i], want) {
			t.Errorf("%s: the answer has become %s", text, hexed(last[i]))
		}
	}
}

func TestDecodeAnswersNewMemory(t *testing.T) {
	var last []api.Code
	for _, text := range samples {
		b, stands := roomyBytes(bytesOf(coded(text)))
		one, _ := pack.Decode(b)
		two, _ := pack.Decode(b)
		room := one.Insts[:cap(one.Insts)]
		for i := range room {
			room[i] = api.Inst{Op: -99, A: -98}
		}
		if !code.Same(two, coded(text)) || !stands() {
			t.Errorf("%s: an answer shares memory with another one or with the bytes", text)
		}
		three, e := pack.Decode(b)
		if e != api.OK || !code.Same(three, coded(text)) {
			t.Errorf("%s: what was written into an answer is seen: %s, %d", text, shown(three), e)
		}
		for i := range b {
			b[i] = 0xee
		}
		last = append(last, three)
	}
	for i, text := range samples {
		if !code.Same(last[i], coded(text)) {
			t.Errorf("%s: the answer has become %s", text, shown(last[i]))
		}
	}
}

// What a call answers hangs on its arguments alone: not on calls ahead of it, refused ones among them, nor on the lists' room.
func TestOneArgumentOneAnswer(t *testing.T) {
	for _, text := range samples {
		want, _ := pack.Encode(coded(text))
		for range 3 {
			for _, other := range samples {
				pack.Encode(coded(other))
				pack.Encode(api.Code{Kind: image, Insts: flat(201)})
				b := bytesOf(coded(other))
				pack.Decode(b[:len(b)/2])
				pack.Decode(append(b, 1))
				pack.Decode(octets("2"))
			}
			c := coded(text)
			c.Insts = slices.Grow(c.Insts, 50)
			if b, e := pack.Encode(c); e != api.OK || !bytes.Equal(b, want) {
				t.Errorf("Encode(%s): %s, then %s, %d", text, hexed(want), hexed(b), e)
			}
			if d, e := pack.Decode(slices.Grow(slices.Clone(want), 50)); e != api.OK || !code.Same(c, d) {
				t.Errorf("Decode(%s): %s, %d", hexed(want), shown(d), e)
			}
		}
	}
}

// The tests' own operators and constants are those of the layers below.
func TestTheTestsModel(t *testing.T) {
	for op, name := range names {
		want := -1
		if slices.Contains(all, name) {
			want = readsOf(name)
		}
		if arith.Arity(op) != want {
			t.Errorf("%s reads %d registers", name, arith.Arity(op))
		}
		if len(bounds[name][0]) != len(ways[name]) || len(bounds[name][1]) != len(ways[name]) {
			t.Errorf("%s has the constants %q and %v", name, ways[name], bounds[name])
		}
	}
	next := draw(19)
	refused := 0
	for range 20000 {
		c := sketch(next, 1+next(6))
		if code.Check(c) != api.OK {
			t.Errorf("%s may not be", shown(c))
		}
		n := &c.Insts[next(len(c.Insts))]
		changed := []*int{&n.Op, &n.A, &n.B, &n.C, &n.K, &n.S, &c.Out, &c.Kind.Form, &c.Kind.Depth}[next(9)]
		*changed += []int{-1, 1, 1, -*changed, 2, 255}[next(6)]
		if e := code.Check(c); e != modelCheck(c) {
			t.Errorf("Check(%s) = %d", shown(c), e)
		} else if e != api.OK {
			refused++
		}
	}
	if refused < 5000 {
		t.Errorf("%d codes were refused", refused)
	}
}
