package chain_test

import (
	"fmt"
	"math"
	"slices"
	"strings"
	"testing"

	"damask/api"
	"damask/arith"
	"damask/chain"
	"damask/check"
	"damask/code"
	"damask/eval"
	"damask/kind"
	"damask/lower"
	"damask/parse"
	"damask/passes"
	"damask/verify"
)

// far are numbers far from all that may stand in a code or in a window.
var far = []int{math.MinInt, math.MinInt + 1, -1 << 62, -1 << 32, least - 1, 1 << 32, 1<<32 + 1, 1<<62 + 1, math.MaxInt - 1, math.MaxInt}

// The chapter's example, and the document's

const example = "place 16; in x; sub 1 0; shrk 2 1; muls 0 171 9; in mid; sel 3 5 4"

// noughts answers a window of {Image, 8}, of noughts but for the sample to the left.
func noughts(left int) api.Window {
	w := api.Window{P: make([]int, 44)}
	w.P[16] = left
	return w
}

func TestExample(t *testing.T) {
	s := taken(t, coded(example))
	w := noughts(200)
	w.X = 3
	s.tells(t, w, 200, 3, -197, -99, 66, 128, 128)
	s.answers(t, w, 128)
	w.X = 200
	s.tells(t, w, 200, 200, 0, 0, 66, 128, 66)
	s.answers(t, w, 66)
}

// The document's examples 1, 5 and 6.
func TestExamplesOfTheWhole(t *testing.T) {
	w := noughts(7)
	w.P[10], w.P[9] = 30, 10
	for text, want := range map[string]int{"place 16; place 10; add 0 1; shrk 2 1": 18, "place 16; muls 0 171 9": 2, "place 16; place 10; place 9; add 0 1; sub 3 2; med 0 1 4": 27} {
		taken(t, coded(text)).answers(t, w, want)
	}
	taken(t, coded("place 16; muls 0 171 9")).answers(t, noughts(255), 85)
}

// 21.1

// quotients writes two numbers and so many divisions of the one by the other: 4 each, and 2.
func quotients(count int) string { return "num 1; num 2" + strings.Repeat("; div 0 1", count) }

// harmful are codes that Verify refuses, with its error.
func harmful() map[api.Errno][]api.Code {
	list := map[api.Errno][]api.Code{
		api.ErrCode: {
			{}, {Kind: image}, {Kind: image, Insts: []api.Inst{}}, listed(image, slices.Repeat([]api.Inst{num(0)}, 1<<16)...), listed(api.Kind{Form: 2, Depth: 8}, num(0)), listed(api.Kind{Form: -1, Depth: 8}, num(0)), listed(api.Kind{Form: 0, Depth: 17}, num(0)), listed(api.Kind{Form: 1, Depth: 0}, num(0)),
			listed(image, api.Inst{Op: api.OpNum, S: 1}), listed(image, api.Inst{Op: api.OpNum, A: 1}), listed(image, api.Inst{Op: math.MaxInt}), listed(image, api.Inst{}), listed(image, num(1), api.Inst{Op: api.OpUse}), listed(image, num(1), api.Inst{Op: api.OpMulS + 1}),
		},
	}
	for _, out := range append([]int{-1, 1, 2}, far...) {
		list[api.ErrCode] = append(list[api.ErrCode], api.Code{Kind: image, Insts: []api.Inst{num(1)}, Out: out})
	}
	for _, n := range far {
		list[api.ErrCode] = append(list[api.ErrCode], listed(image, num(n)), listed(image, num(1), api.Inst{Op: api.OpNeg, A: n}))
	}
	for e, texts := range map[api.Errno][]string{
		api.ErrCode:     {repeated("num 0", "num @1", 200), "num 0; neg 1", "num 0; neg 1; out 0", "num 0; neg -1", "neg 0", "num 0; sub 0 1", "num 0; sel 0 0 1", "num 2147483648", "place 256", "in 6; num 1", "in -1", "num 1; shlk 0 32; out 0", "num 1; shrk 0 -1", "num 1; andk 0 -1", "num 1; muls 0 0 1", "num 1; muls 0 1 63", "place 44; num 0; div 1 1; neg 7"},
		api.ErrAhead:    {"place 44", "num 1; place 255; out 0", "num 0; div 0 0; place 44", "num most; add 0 0; place 44", quotients(50) + "; place 44"},
		api.ErrDivZero:  {"num 0; div 0 0", "place 16; mod 0 0", "num 1; num 0; div 0 1; out 0", "num 1; in lo; mod 0 1; num 7", "num 0; div 0 0; num most; add 2 2", "place 16; place 10; sub 0 1; div 0 2", quotients(50) + "; in lo; mod 0 52"},
		api.ErrOverflow: {"num most; num 1; add 1 0", "num least; neg 0; num 1", "num least; abs 0", "num least; num -1; div 0 1", "place 16; shlk 0 24; out 0", "num 1; num 32; shl 0 1", "num 1; num -1; shr 0 1", "num 2; muls 0 4611686018427387904 62", "num 1; shlk 0 31; num 0; div 2 2", quotients(50) + "; num most; mulk 52 2"},
		api.ErrCost:     {quotients(50), quotients(50) + "; out 0", repeated("place 16; num 4", "mod 0 1", 34), quotients(49) + "; num 1; num 2; num 3"},
	} {
		for _, text := range texts {
			list[e] = append(list[e], coded(text))
		}
	}
	list[api.ErrAhead] = append(list[api.ErrAhead], codedFor(sound, "place 31"), codedFor(sound, "place 43"))
	list[api.ErrOverflow] = append(list[api.ErrOverflow], codedFor(sound, "in x; mul 0 0"))
	list[api.ErrDivZero] = append(list[api.ErrDivZero], codedFor(sound, "num 1; in mid; div 0 1"), codedFor(sound, "num 1; in y; mod 0 1"))
	return list
}

func TestHarmfulCodes(t *testing.T) {
	for want, list := range harmful() {
		for _, c := range list {
			refused(t, c, want)
		}
	}
}

// Whether a code is taken hangs on its kind: the same instructions are for one and not for another.
func TestTheKindTells(t *testing.T) {
	for text, want := range map[string][2]api.Errno{
		"place 30": {}, "place 31": {api.OK, api.ErrAhead}, "in x; mul 0 0": {api.OK, api.ErrOverflow}, "in mid; div 0 0": {api.OK, api.ErrDivZero}, "in lo; mod 0 0": {api.ErrDivZero, api.OK}, "in hi; shlk 0 16": {api.OK, api.OK},
	} {
		for i, k := range []api.Kind{image, sound} {
			if _, e := made(t, codedFor(k, text)); e != want[i] {
				t.Errorf("%s for %v: %d, not %d", text, k, e, want[i])
			}
		}
	}
}

// 21.2: nil chains

func TestNilChain(t *testing.T) {
	kinds(func(k api.Kind) {
		for _, w := range windowsOf(k, 4) {
			runsNothing(t, nil, w)
		}
	})
	for _, w := range []api.Window{{}, {X: -1}, {P: []int{}}, {P: make([]int, 1000)}, {X: math.MaxInt, Y: math.MinInt, C: 5, P: far}} {
		runsNothing(t, nil, w)
	}
}

// 21.2: windows that don't fit

// unfitting goes over windows that don't fit a kind, each with one thing spoilt of one that does.
func unfitting(k api.Kind, do func(w api.Window)) {
	good := windowOf(k, 3)
	x, y, c := ends(k.Form)
	for _, n := range append([]int{-1, -2}, far...) {
		for _, w := range []api.Window{{X: n, Y: good.Y, C: good.C}, {X: good.X, Y: n, C: good.C}, {X: good.X, Y: good.Y, C: n}} {
			w.P = good.P
			do(w)
		}
	}
	do(api.Window{X: x + 1, Y: good.Y, C: good.C, P: good.P})
	do(api.Window{X: good.X, Y: y + 1, C: good.C, P: good.P})
	do(api.Window{X: good.X, Y: good.Y, C: c + 1, P: good.P})
	// Lists of other lengths; the spare room of what is too short has what is missing.
	for _, list := range [][]int{nil, {}, good.P[:1], good.P[:len(good.P)-1], good.P[1:], append(slices.Clone(good.P), good.P[0]), slices.Repeat(good.P, 2), make([]int, 1<<16)} {
		do(api.Window{X: good.X, Y: good.Y, C: good.C, P: list})
	}
	low, high, _ := samples(k)
	for n := range good.P {
		for _, sample := range append([]int{low - 1, high + 1, low - 1<<k.Depth, low + 1<<32, high - 1<<32}, far...) {
			w := copied(good)
			w.P[n] = sample
			do(w)
		}
	}
}

func TestWindowsThatDontFit(t *testing.T) {
	kinds(func(k api.Kind) {
		for _, text := range []string{"num 1", "place 0; neg 0", "in x; in y; add 0 1; place 30; out 2"} {
			s := taken(t, codedFor(k, text))
			want := s.runs(t, windowOf(k, 5))
			unfitting(k, func(w api.Window) { s.unfit(t, w) })
			// Runs that were refused aren't seen.
			s.tells(t, windowOf(k, 5), want...)
		}
	})
}

// Windows of other kinds fit where they have just the places, with samples of this kind.
func TestWindowsOfOtherKinds(t *testing.T) {
	taking := 0
	kinds(func(k api.Kind) {
		s := taken(t, codedFor(k, "place 0; in hi; max 0 1"))
		kinds(func(other api.Kind) {
			for seed := range uint(4) {
				w := windowOf(other, seed)
				list := s.runs(t, w)
				if other.Form != k.Form && list != nil {
					t.Errorf("%v takes a window of %v", k, other)
				}
				if other == k && list == nil {
					t.Errorf("%v doesn't take its own window", k)
				}
				if list != nil {
					taking++
				}
			}
		})
	})
	if taking < 4*32*8 {
		t.Errorf("%d windows fit", taking)
	}
}

// 21.2: windows at the kinds' ends

// everything answers the code that reads all inputs and all places of a kind.
func everything(k api.Kind) api.Code {
	var list []api.Inst
	for n := range 6 {
		list = append(list, api.Inst{Op: api.OpIn, K: n})
	}
	for n := range places(k.Form) {
		list = append(list, api.Inst{Op: api.OpPlace, K: n})
	}
	return listed(k, list...)
}

func TestWindowsAtTheEnds(t *testing.T) {
	kinds(func(k api.Kind) {
		low, high, border := samples(k)
		x, y, c := ends(k.Form)
		s := taken(t, everything(k))
		s.also(t, registers(len(s.c.Insts)))
		tells := func(w api.Window) {
			t.Helper()
			s.tells(t, w, append([]int{w.X, w.Y, w.C, low, high, border}, w.P...)...)
		}
		for _, w := range windowsOf(k, 12) {
			tells(w)
		}
		lows, highs := windowOf(k, 0), windowOf(k, 1)
		if !slices.Equal([]int{lows.X, lows.Y, lows.C, highs.X, highs.Y, highs.C}, []int{0, 0, 0, x, y, c}) || slices.Max(lows.P) != low || slices.Min(highs.P) != high {
			t.Fatalf("%v: %v and %v aren't the ends", k, lows, highs)
		}
		// One alone at the other end.
		for n := range lows.P {
			one, other := copied(lows), copied(highs)
			one.P[n], other.P[n] = high, low
			tells(one)
			tells(other)
		}
		for _, w := range []api.Window{{X: x}, {Y: y}, {C: c}, {X: x, Y: y}, {C: 1}, {C: 2}, {X: x - 1, C: c}} {
			w.P = lows.P
			tells(w)
		}
	})
}

func TestInputsByHand(t *testing.T) {
	for _, c := range []struct {
		k    api.Kind
		want []int
	}{
		{api.Kind{Form: api.Image, Depth: 1}, []int{0, 1, 1}}, {api.Kind{Form: api.Image, Depth: 2}, []int{0, 3, 2}}, {api.Kind{Form: api.Image, Depth: 8}, []int{0, 255, 128}}, {api.Kind{Form: api.Image, Depth: 16}, []int{0, 65535, 32768}},
		{api.Kind{Form: api.Sound, Depth: 1}, []int{-1, 0, 0}}, {api.Kind{Form: api.Sound, Depth: 2}, []int{-2, 1, 0}}, {api.Kind{Form: api.Sound, Depth: 8}, []int{-128, 127, 0}}, {api.Kind{Form: api.Sound, Depth: 16}, []int{-32768, 32767, 0}},
	} {
		w := windowOf(c.k, 0)
		w.X, w.C = 4000, 2
		taken(t, codedFor(c.k, "in x; in y; in c; in lo; in hi; in mid")).tells(t, w, append([]int{4000, 0, 2}, c.want...)...)
	}
}

// 21.2: Out

// lasting are codes of {Image, 8} of every length, of which each register is another number.
func lasting(count int) api.Code {
	c := coded("place 16")
	for i := 1; i < count; i++ {
		c.Insts = append(c.Insts, api.Inst{Op: api.OpAdd, A: i - 1, B: 0})
	}
	return c
}

func TestOut(t *testing.T) {
	for count := 1; count <= 200; count++ {
		c := lasting(count)
		for _, c.Out = range slices.Compact([]int{0, count / 3, count / 2, count - 1}) {
			s := taken(t, c)
			s.answers(t, noughts(3), 3*(c.Out+1))
			s.answers(t, noughts(100), 100*(c.Out+1))
		}
	}
	refused(t, lasting(201), api.ErrCode)
	for out := range 200 {
		c := lasting(200)
		c.Out = out
		taken(t, c).answers(t, noughts(255), 255*(out+1))
	}
}

// Registers that the answer doesn't need: dear instructions, and choices that aren't taken.
func TestWhatIsntNeeded(t *testing.T) {
	for text, want := range map[string][]int{
		"num 5; num 6; num 7; out 0": {5, 6, 7}, "place 16; num 3; div 0 1; mod 0 1; out 1": {200, 3, 66, 2}, "place 16; num 3; div 0 1; mod 0 1; out 0": {200, 3, 66, 2},
		"num 0; num 7; num 3; div 1 2; mod 1 2; sel 0 3 4": {0, 7, 3, 2, 1, 1}, "num 1; num 7; num 3; div 1 2; mod 1 2; sel 0 3 4": {1, 7, 3, 2, 1, 2}, "num 1; num 1; num 1; num 1; out 2": {1, 1, 1, 1},
	} {
		taken(t, coded(text)).tells(t, noughts(200), want...)
	}
	for _, text := range []string{quotients(49) + "; num 1; num 1; out 0", repeated("place 16; num 4", "mod 0 1", 33) + "; out 1", repeated("num 0", "num @1", 199) + "; out 0", repeated("place 16", "neg @1", 199)} {
		for _, k := range []api.Kind{image, sound} {
			s := taken(t, codedFor(k, text))
			if cost := code.Cost(s.c); cost != 200 {
				t.Errorf("%s costs %d", shown(s.c), cost)
			}
			for _, w := range windowsOf(k, 8) {
				s.runs(t, w)
			}
		}
	}
}

// 21.2: a chain is run any number of times

// examples are codes of {Image, 8} of all sorts.
var examples = []string{
	"num 1", "in y", "place 43", "place 16; neg 0", "place 16; place 10; sub 0 1", example, "place 1; place 2; place 3; med 0 1 2", "place 16; neg 0; num 4; div 1 2; mod 1 2; and 3 2; out 3", "in x; in y; mul 0 1; in c; shl 2 3",
	"place 16; num 10; mod 0 1; shlk 2 24", "place 16; place 10; lt 0 1; sel 2 0 1; place 9; out 3", "place 3; place 4; eq 0 1; num 5; sel 2 3 0", quotients(49), repeated("place 16", "neg @1", 199), repeated("place 1; place 2; place 3", "med @3 @1 @2", 197),
}

func TestManyRuns(t *testing.T) {
	on := windowsOf(image, 12)
	for _, text := range examples {
		s := taken(t, coded(text))
		var want []int
		for _, w := range on {
			// Each of a chain that runs for the first time.
			value, e := taken(t, coded(text)).x.Run(w)
			if e != api.OK {
				t.Fatalf("%s on %v: Run answers %d, %d", text, w, value, e)
			}
			want = append(want, value)
		}
		next := draw(31)
		for range 300 {
			i := next(len(on))
			switch next(3) {
			case 0:
				s.answers(t, on[i], want[i])
			case 1:
				s.comesTo(t, on[i], s.x, want[i])
			case 2:
				s.unfit(t, windowOf(sound, uint(i)))
			}
		}
	}
}

// Chains in turns, of one code and of others, also of other kinds.
func TestChainsInTurns(t *testing.T) {
	var list []subject
	for _, text := range examples {
		list = append(list, taken(t, coded(text)), taken(t, coded(text)))
	}
	for _, k := range []api.Kind{sound, {Form: api.Sound, Depth: 1}, {Form: api.Image, Depth: 16}} {
		list = append(list, taken(t, everything(k)), taken(t, codedFor(k, "place 3; in hi; sub 1 0")))
	}
	next := draw(37)
	for range 4000 {
		s := list[next(len(list))]
		s.runs(t, windowOf(s.c.Kind, uint(next(9))))
		if next(20) == 0 {
			refused(t, coded("num 0; div 0 0"), api.ErrDivZero)
		}
	}
	for i := 0; i < 2*len(examples); i += 2 {
		if list[i].x == list[i+1].x {
			t.Errorf("%s: two calls answer one chain", shown(list[i].c))
		}
	}
}

// 21.3: operators, by hand

// byHand are codes with the last register's answer, whatever the window is.
var byHand = map[string]int{
	"num least": least, "num most": most, "num -1": -1, "num 0": 0,
	"num most; neg 0": -most, "num -2147483647; neg 0": most, "num 0; neg 0": 0, "num -1; neg 0": 1, "num -2147483647; abs 0": most, "num most; abs 0": most, "num 0; abs 0": 0, "num -1; abs 0": 1, "num least; sgn 0": -1, "num -1; sgn 0": -1, "num 0; sgn 0": 0, "num 1; sgn 0": 1, "num most; sgn 0": 1,
	"num least; num most; add 0 1": -1, "num most; num least; add 0 1": -1, "num 2147483646; num 1; add 0 1": most, "num -1073741824; add 0 0": least, "num -1; num least; sub 0 1": most, "num 0; num most; sub 0 1": -most, "num least; num -1; sub 0 1": -most, "num 3; num 5; sub 0 1": -2, "num 3; num 5; sub 1 0": 2,
	"num 65536; num -32768; mul 0 1": least, "num -46340; mul 0 0": 2147395600, "num least; num 1; mul 0 1": least, "num -1; num most; mul 0 1": -most, "num 0; num least; mul 0 1": 0,
	"num least; num 1; div 0 1": least, "num least; num -2; div 0 1": 1 << 30, "num most; num -1; div 0 1": -most, "num -7; num 2; div 0 1": -3, "num 7; num -2; div 0 1": -3, "num -7; num -2; div 0 1": 3, "num 1; num least; div 0 1": 0, "num least; num least; div 0 1": 1, "num most; num least; div 0 1": 0, "num 2; num 7; div 0 1": 0, "num 2; num 7; div 1 0": 3,
	"num least; num -1; mod 0 1": 0, "num least; num most; mod 0 1": -1, "num most; num least; mod 0 1": most, "num -7; num 2; mod 0 1": -1, "num 7; num -2; mod 0 1": 1, "num -7; num -4; mod 0 1": -3, "num 9; num 1; mod 0 1": 0, "num least; num least; mod 0 1": 0,
	"num -1; num 31; shl 0 1": least, "num 1; num 30; shl 0 1": 1 << 30, "num least; num 0; shl 0 1": least, "num 0; num 31; shl 0 1": 0, "num 3; num 2; shl 0 1": 12, "num 3; num 2; shl 1 0": 16,
	"num least; num 31; shr 0 1": -1, "num most; num 31; shr 0 1": 0, "num most; num 30; shr 0 1": 1, "num -1; num 4; shr 0 1": -1, "num least; num 0; shr 0 1": least, "num -5; num 1; shr 0 1": -3, "num 5; num 1; shr 0 1": 2,
	"num least; num most; and 0 1": 0, "num -1; num most; and 0 1": most, "num -2; num 7; and 0 1": 6, "num least; num -1; and 0 1": least, "num least; num most; or 0 1": -1, "num 0; num least; or 0 1": least, "num 9; num 5; or 0 1": 13, "num least; num most; xor 0 1": -1, "num -1; num 5; xor 0 1": -6, "num least; xor 0 0": 0, "num -1; num most; xor 0 1": least,
	"num least; num most; lt 0 1": 1, "num most; num least; lt 0 1": 0, "num 5; lt 0 0": 0, "num least; num most; le 0 1": 1, "num most; num least; le 0 1": 0, "num 5; le 0 0": 1, "num least; num most; gt 0 1": 0, "num most; num least; gt 0 1": 1, "num 5; gt 0 0": 0,
	"num least; num most; ge 0 1": 0, "num most; num least; ge 0 1": 1, "num 5; ge 0 0": 1, "num least; num most; eq 0 1": 0, "num least; eq 0 0": 1, "num 5; num 5; eq 0 1": 1, "num -1; num most; eq 0 1": 0, "num least; num most; ne 0 1": 1, "num least; ne 0 0": 0, "num 5; num 5; ne 0 1": 0, "num -1; num most; ne 0 1": 1, "num -1; num 0; lt 0 1": 1, "num -1; num 0; gt 0 1": 0,
	"num least; num most; min 0 1": least, "num most; num least; min 0 1": least, "num least; num most; max 0 1": most, "num most; num least; max 0 1": most, "num -1; num 0; min 0 1": -1, "num -1; num 0; max 0 1": 0,
	"num 3; num 9; num 5; clamp 0 1 2": 5, "num least; num -8; num 8; clamp 0 1 2": -8, "num most; num -8; num 8; clamp 0 1 2": 8, "num 2; num -8; num 8; clamp 0 1 2": 2, "num 2; num most; num least; clamp 0 1 2": least,
	"num 9; num 1; num 5; med 0 1 2": 5, "num 1; num 5; num 9; med 0 1 2": 5, "num 5; num 9; num 1; med 0 1 2": 5, "num 5; num 1; num 9; med 0 1 2": 5, "num 1; num 9; num 5; med 0 1 2": 5, "num 9; num 5; num 1; med 0 1 2": 5, "num least; num most; num 0; med 0 1 2": 0, "num 4; num 4; num most; med 0 1 2": 4,
	"num least; num 1; num 2; sel 0 1 2": 1, "num -1; num 1; num 2; sel 0 1 2": 1, "num 0; num 1; num 2; sel 0 1 2": 2, "num most; num least; num most; sel 0 1 2": least, "num 0; num least; num most; sel 0 1 2": most, "num 7; sel 0 0 0": 7,
	"num -1; shlk 0 31": least, "num 1; shlk 0 30": 1 << 30, "num 0; shlk 0 31": 0, "num least; shlk 0 0": least, "num most; shlk 0 0": most, "num -5; shlk 0 2": -20, "num least; shrk 0 31": -1, "num most; shrk 0 31": 0, "num least; shrk 0 0": least, "num -5; shrk 0 1": -3, "num most; shrk 0 30": 1,
	"num least; andk 0 most": 0, "num -1; andk 0 most": most, "num -1; andk 0 0": 0, "num most; andk 0 0": 0, "num -2; andk 0 7": 6, "num least; andk 0 1": 0, "num 1; mulk 0 least": least, "num 0; mulk 0 least": 0, "num 1; mulk 0 most": most, "num -1; mulk 0 most": -most, "num least; mulk 0 1": least, "num least; mulk 0 0": 0, "num most; mulk 0 -1": -most, "num -3; mulk 0 5": -15,
	"num 1; muls 0 4611686018427387904 62": 1, "num -1; muls 0 4611686018427387904 62": -1, "num -1; muls 0 4611686018427387904 31": least, "num 0; muls 0 4611686018427387904 0": 0, "num -1; muls 0 4611686018427387903 31": least, "num 1; muls 0 4611686018427387903 32": 1<<30 - 1,
	"num least; muls 0 1 0": least, "num most; muls 0 1 0": most, "num least; muls 0 1 62": -1, "num most; muls 0 1 62": 0, "num least; muls 0 2147483648 31": least, "num least; muls 0 2147483648 62": -1, "num most; muls 0 2147483648 31": most, "num least; muls 0 2147483647 31": -most, "num 7; muls 0 1431655766 32": 2, "num -7; muls 0 1431655766 32": -3, "num -1; muls 0 1 1": -1, "num 255; muls 0 171 9": 85, "num -5; muls 0 3 0": -15,
}

func TestOperatorsByHand(t *testing.T) {
	count := map[string]int{}
	for text, want := range byHand {
		for _, k := range []api.Kind{image, sound} {
			s := taken(t, codedFor(k, text))
			s.answers(t, windowOf(k, 3), want)
			count[names[s.c.Insts[s.c.Out].Op]]++
		}
	}
	for _, name := range all {
		if count[name] < 6 && name != "in" && name != "place" {
			t.Errorf("%s is asked %d times", name, count[name])
		}
	}
}

// 21.3: operators, of numbers at their edges

// edges are numbers about which operators turn; few are some of them.
var (
	edges = []int{least, least + 1, least + 2, -1<<30 - 1, -1 << 30, -65536, -46341, -256, -33, -32, -7, -2, -1, 0, 1, 2, 3, 8, 30, 31, 32, 255, 46340, 46341, 65535, 65536, 1 << 30, most - 1, most}
	few   = []int{least, -65536, -7, -1, 0, 1, 2, 31, 65535, most}
)

// bounds answers the constants that are tried of an operator: pairs of K and S, the least and the greatest among them.
func bounds(name string) [][2]int {
	var ks []int
	ss := []int{0}
	switch name {
	case "shlk", "shrk":
		ks = []int{0, 1, 2, 15, 16, 30, 31}
	case "andk":
		ks = []int{0, 1, 2, 255, 1 << 30, most - 1, most}
	case "mulk":
		ks = []int{least, least + 1, -65536, -2, -1, 0, 1, 2, 3, 65536, most - 1, most}
	case "muls":
		ks = []int{1, 2, 3, 171, 1 << 20, 1 << 30, most, 1 << 31, 1<<31 + 1, 1431655766, 1 << 32, 1 << 40, 1 << 61, 1<<62 - 1, 1 << 62}
		ss = []int{0, 1, 9, 30, 31, 32, 33, 61, 62}
	default:
		ks = []int{0}
	}
	var list [][2]int
	for _, k := range ks {
		for _, s := range ss {
			list = append(list, [2]int{k, s})
		}
	}
	return list
}

// tuples goes over all choices of so many out of a list.
func tuples(list []int, count int, do func(chosen []int)) {
	if count == 0 {
		do(nil)
		return
	}
	tuples(list, count-1, func(chosen []int) {
		for _, x := range list {
			do(append(slices.Clip(chosen), x))
		}
	})
}

func TestOperatorsOfNumbers(t *testing.T) {
	on := windowOf(sound, 3)
	for _, name := range all {
		count := readsOf(name)
		if count == 0 {
			continue
		}
		list := edges
		if count == 3 {
			list = few
		}
		found := 0
		for _, by := range bounds(name) {
			met := 0
			tuples(list, count, func(numbers []int) {
				n := reading(api.Inst{Op: slices.Index(names, name), K: by[0], S: by[1]}, []int{0, 1, 2}[:count]...)
				var insts []api.Inst
				for _, x := range numbers {
					insts = append(insts, num(x))
				}
				s, e := made(t, listed(sound, append(insts, n)...))
				// Of numbers alone the spans are as narrow as can be: what is refused has no answer.
				x, f := arith.Value(n.Op, n.K, n.S, numbers...)
				if e != f {
					t.Errorf("New(%s): %d, but arith.Value answers %d, %d", shown(s.c), e, x, f)
				}
				if e == api.OK {
					s.answers(t, on, x)
					met++
				}
			})
			if met == 0 {
				t.Errorf("%s with %v is never taken", name, by)
			}
			found += met
		}
		if found < len(edges)-2 {
			t.Errorf("%s is taken %d times", name, found)
		}
	}
}

// 21.3: operators, of what the window brings

// part is how many instructions lay an argument.
const part = 9

// laid answers a code of {Sound, 16} whose registers 8, 17 and 26 have these spans: each of them any number of 32 bits, made of two places, and clamped.
func laid(spans ...api.Span) []api.Inst {
	var list []api.Inst
	for i, s := range spans {
		r := part * i
		text := fmt.Sprintf("place %d; shlk %d 16; place %d; num 32768; add %d %d; add %d %d; num %d; num %d; clamp %d %d %d", 2*i, r, 2*i+1, r+2, r+3, r+1, r+4, s.Lo, s.Hi, r+5, r+6, r+7)
		list = append(list, codedFor(sound, text).Insts...)
	}
	return list
}

// placed answers a window in which the registers of laid come to these numbers, if they are of their spans.
func placed(numbers ...int) api.Window {
	w := windowOf(sound, 3)
	for i, x := range numbers {
		w.P[2*i], w.P[2*i+1] = x>>16, x&65535-32768
	}
	return w
}

// behind answers the code of an operator of the registers that laid gives these spans.
func behind(name string, by [2]int, spans []api.Span) api.Code {
	var registers []int
	for i := range spans {
		registers = append(registers, part*i+part-1)
	}
	n := reading(api.Inst{Op: slices.Index(names, name), K: by[0], S: by[1]}, registers...)
	return listed(sound, append(laid(spans...), n)...)
}

// One chain for all numbers of 32 bits, where the operator has an answer for all of them.
func TestOperatorsOfAllNumbers(t *testing.T) {
	whole := api.Span{Lo: least, Hi: most}
	var found []string
	for _, name := range all {
		count := readsOf(name)
		if count == 0 {
			continue
		}
		list := edges
		if count == 3 {
			list = few
		}
		met := 0
		for _, by := range bounds(name) {
			s, e := made(t, behind(name, by, slices.Repeat([]api.Span{whole}, count)))
			if e != api.OK {
				continue
			}
			met++
			tuples(list, count, func(numbers []int) {
				x, f := arith.Value(s.c.Insts[s.c.Out].Op, by[0], by[1], numbers...)
				if f != api.OK {
					t.Fatalf("%s of %v: %d", name, numbers, f)
				}
				s.answers(t, placed(numbers...), x)
			})
		}
		if met > 0 {
			found = append(found, name)
		}
	}
	if got := strings.Join(found, " "); got != "sgn and or xor lt le gt ge eq ne min max clamp med sel shlk shrk andk mulk muls" {
		t.Errorf("of all numbers there are %s", got)
	}
}

// spansOf answers the spans between some numbers.
func spansOf(numbers ...int) []api.Span {
	var list []api.Span
	for i, low := range numbers {
		for _, high := range numbers[i:] {
			list = append(list, api.Span{Lo: low, Hi: high})
		}
	}
	return list
}

// of answers some numbers of a span: its ends, and about 0 and the midst.
func of(s api.Span) []int {
	list := []int{s.Lo, s.Hi, s.Lo + (s.Hi-s.Lo)/3}
	if s.Lo < 0 && s.Hi > 0 {
		list = append(list, 0)
	}
	slices.Sort(list)
	return slices.Compact(list)
}

// runsWithin runs an operator of these spans, if it is taken, on windows that bring its arguments to numbers of them; it answers how many.
func runsWithin(t *testing.T, name string, by [2]int, spans ...api.Span) int {
	t.Helper()
	s, e := made(t, behind(name, by, spans))
	if e != api.OK {
		return 0
	}
	count := 0
	var numbers []int
	var choose func(i int)
	choose = func(i int) {
		if i == len(spans) {
			x, f := arith.Value(s.c.Insts[s.c.Out].Op, by[0], by[1], numbers...)
			if f != api.OK {
				t.Errorf("%s of %v, in %v: %d", name, numbers, spans, f)
			}
			s.answers(t, placed(numbers...), x)
			count++
			return
		}
		for _, x := range of(spans[i]) {
			numbers = append(numbers[:i], x)
			choose(i + 1)
		}
	}
	choose(0)
	return count
}

func TestOperatorsOfSpans(t *testing.T) {
	for _, name := range all {
		count := 0
		switch readsOf(name) {
		case 1:
			for _, by := range bounds(name) {
				for _, a := range spansOf(least, least+1, -65536, -7, 0, 1, 255, 1<<30, most) {
					count += runsWithin(t, name, by, a)
				}
			}
		case 2:
			for _, a := range spansOf(least, -7, -1, 0, 31, most) {
				for _, b := range spansOf(least, -2, -1, 0, 1, 31, most) {
					count += runsWithin(t, name, [2]int{}, a, b)
				}
			}
		case 3:
			for _, a := range spansOf(-7, 0, most) {
				for _, b := range spansOf(least, 0, 5) {
					for _, c := range spansOf(-2, 3, most) {
						count += runsWithin(t, name, [2]int{}, a, b, c)
					}
				}
			}
		}
		if readsOf(name) > 0 && count < 100 {
			t.Errorf("%s is run %d times", name, count)
		}
	}
}

// 21.3: registers

// The last instruction of a code as long as may be reads each register, in each of its parts; each register is another number.
func TestRegisters(t *testing.T) {
	w := windowOf(image, 3)
	for _, name := range all {
		count := readsOf(name)
		var list []api.Inst
		for i := range 200 - check.Cost(slices.Index(names, name)) {
			list = append(list, num(3*i+1))
		}
		for _, other := range []int{0, 57, len(list) - 1} {
			for i := range list {
				for at := range count {
					registers := []int{other, 30, 100}[:count]
					registers[at] = i
					n := reading(api.Inst{Op: slices.Index(names, name)}, registers...)
					if name == "shl" || name == "shr" {
						// A count that leaves 32 bits: the registers 0 to 6 are 19 at the most.
						n.B %= 7
					}
					if name == "muls" {
						n.K, n.S = 5, 1
					}
					c := listed(image, append(slices.Clip(list), n)...)
					x, e := chained(t, c)
					if e != api.OK {
						t.Fatalf("New(%s): %d", shown(c), e)
					}
					subject{c: c, x: x, m: machine(t, c)}.runs(t, w)
				}
			}
		}
	}
}

// every goes over all codes of so many instructions of a few operators, whichever registers they read.
func every(list []api.Inst, count int, do func([]api.Inst)) {
	if len(list) == count {
		do(list)
		return
	}
	i := len(list)
	list = slices.Clip(list)
	every(append(list, api.Inst{Op: api.OpPlace, K: 16}), count, do)
	every(append(list, api.Inst{Op: api.OpIn, K: api.InC}), count, do)
	for a := range i {
		every(append(list, api.Inst{Op: api.OpNeg, A: a}), count, do)
		for b := range i {
			every(append(list, api.Inst{Op: api.OpSub, A: a, B: b}), count, do)
			for c := range i {
				every(append(list, api.Inst{Op: api.OpSel, A: a, B: b, C: c}), count, do)
			}
		}
	}
}

func TestEveryShortCode(t *testing.T) {
	on := windowsOf(image, 5)[2:]
	asked := 0
	for count := 1; count <= 4; count++ {
		every(nil, count, func(insts []api.Inst) {
			s := taken(t, api.Code{Kind: image, Insts: insts, Out: asked % count})
			for _, w := range on {
				s.runs(t, w)
			}
			asked++
		})
	}
	if asked != 2*(1+5*(1+16*(1+41))) {
		t.Errorf("%d codes are run", asked)
	}
}

// 21.3: programs

const median = "med(p(-1,0),p(0,-1),p(-1,0)+p(0,-1)-p(-1,-1))"

// programs are ordinary ones, of images, of sounds and of both.
var programs = []string{
	"1", "x", "y", "c", "lo", "hi", "mid", "p(-1,0)", "q(1,-1)", "q(3,1,1)", "p(-16)", "p(-1,0)+1", "(p(-1,0)+p(0,-1))/2", median,
	"let a=p(-1,0);let b=p(0,-1);let c0=p(-1,-1);c0>=max(a,b)?min(a,b):c0<=min(a,b)?max(a,b):a+b-c0",
	"1/(abs(p(-1,0)-p(0,-1))+1)", "(x&255)*(x&255)", "x*x", "x*y", "2*p(-1)-p(-2)", "clamp(2*p(-1)-p(-2),lo,hi)", "let a=hi;a*a", "x?1:y?2:3", "c?q(1,0,0)+p(-1,0)-q(1,-1,0):mid", "let d=abs(p(-1,0)-p(0,-1));d<2?0:d<8?1:d<32?2:3",
	"-x", "--x-(--x)", "sgn(-x)<<3>>1", "1<<2<3|4&5^6", "let a=1;let b=a;let c2=a+b;(c2%3==0)!=(a>b)", "min(x,max(y,-c))+min(max(-c,y),x)", "let unused=q(3,-4);2147483647", "let e=p(-1)-p(-2);e/3+e%5*(e>>1)-(e<<2)&7|-e^c",
	"let a=p(-1);let b=p(-2);let s=a+b;let d=a-b;let u=s*2;u/3", "(p(-1)-p(-2))/3+(p(-1)-p(-2))%5*(p(-1)-p(-2)>>1)-(p(-1)-p(-2)<<2)&7", "hi-lo+1-(hi-lo+1)", "(p(-1)+p(-2))*(p(-2)+p(-1)&255)", "p(-1,0)*32768", "p(-1)<<15", "p(-1)<<16",
	"x%((p(-1)&7)+1)", "x>>(p(-1,0)&15)", "1<<(p(-1,0)&15)", "1/(hi-1)", "1/(lo+2)", "1<<(hi>>12)", "hi*hi", "1/mid", "p(-1)-p(-2)?p(-1)/3:p(-2)%3", "let a=p(-1)<0?-p(-1):p(-1);a==abs(p(-1))", "p(-1,0)/3", "p(-1,0)%10",
	"p(-1)%10", "8*p(-1)/10", "(p(-1)*3-p(-2)*3+p(-3)+2)/4%256", "1<<p(-1)%3+2", "1/(p(-1)%3+3)", "x/10%10", "(x/3+y/5)%7", "p(-1)/2147483647", "p(-1)/-3", "p(-1)%-4", "p(-1)-p(-1)/7*7-p(-1)%7",
	"0" + strings.Repeat("+1%2", 22), strings.Repeat("-", 23) + "1", "p(-1)" + strings.Repeat("/2", 22), "x" + strings.Repeat("%4096", 22),
}

// orderAtRandom answers an order of passes that may be.
func orderAtRandom(next func(int) int) []int {
	var order []int
	for range next(17) {
		order = append(order, 1+next(4))
	}
	return order
}

// passed answers the subjects of a code behind each pass, behind the usual order and behind so many others.
func passed(t *testing.T, next func(int) int, c api.Code, others int) []subject {
	t.Helper()
	best, e := passes.Best(c)
	if e != api.OK {
		t.Fatalf("Best(%s): %d", shown(c), e)
	}
	list := []subject{taken(t, best)}
	orders := [][]int{{passes.Fold}, {passes.Share}, {passes.Reduce}, {passes.Prune}}
	for range others {
		orders = append(orders, orderAtRandom(next))
	}
	for _, order := range orders {
		d, e := passes.Run(c, order...)
		if e != api.OK {
			t.Fatalf("Run(%s, %v): %d", shown(c), order, e)
		}
		list = append(list, taken(t, d))
	}
	return list
}

// means asks of a program's chains, with any passes done, that they answer what its tree comes to; it answers whether the program is one of the kind's.
func means(t *testing.T, next func(int) int, k api.Kind, text string, on []api.Window, others int) bool {
	t.Helper()
	tree, e := parse.Parse(text)
	if e != api.OK {
		t.Fatalf("Parse(%q): %d", text, e)
	}
	c, e := lower.Lower(k, tree)
	if e != api.OK {
		return false
	}
	list := append(passed(t, next, c, others), taken(t, c))
	for _, w := range on {
		want, e := eval.Eval(k, tree, w)
		if e != api.OK {
			t.Errorf("Eval(%q) for %v on %v: %d", text, k, w, e)
		}
		for _, s := range list {
			s.answers(t, w, want)
		}
	}
	return true
}

func TestPrograms(t *testing.T) {
	next := draw(13)
	count := map[string]int{}
	kinds(func(k api.Kind) {
		for _, text := range programs {
			if means(t, next, k, text, windowsOf(k, 6), 4) {
				count[text]++
			}
		}
	})
	for _, text := range programs {
		if count[text] == 0 {
			t.Errorf("%q is a program of no kind", text)
		}
	}
	for text, want := range map[string]int{"1": 32, "x": 32, "p(-1,0)": 16, "p(-16)": 16, median: 16, "x*x": 16, "x*y": 32, "1/(hi-1)": 30, "1/mid": 16, "(p(-1,0)+p(0,-1))/2": 16, "1/(abs(p(-1,0)-p(0,-1))+1)": 16} {
		if count[text] != want {
			t.Errorf("%q is a program of %d kinds, not of %d", text, count[text], want)
		}
	}
}

// The median-edge predictor is what it is said to be, at every depth.
func TestTheMedian(t *testing.T) {
	tree, _ := parse.Parse(median)
	for depth := 1; depth <= 16; depth++ {
		k := api.Kind{Form: api.Image, Depth: depth}
		c, e := lower.Lower(k, tree)
		if e != api.OK {
			t.Fatalf("the depth %d: %d", depth, e)
		}
		s := taken(t, c)
		top := 1<<depth - 1
		list := []int{0, min(1, top), top / 3, top / 2, top/2 + 1, top - 1, top}
		tuples(list, 3, func(three []int) {
			left, above, corner := three[0], three[1], three[2]
			want := left + above - corner
			switch {
			case corner >= max(left, above):
				want = min(left, above)
			case corner <= min(left, above):
				want = max(left, above)
			}
			w := windowOf(k, uint(left+above))
			w.P[16], w.P[10], w.P[9] = left, above, corner
			s.answers(t, w, want)
		})
	}
}

// marks are the operators as a text writes them, of the parts a, b and c.
var marks = []string{
	"-a", "abs(a)", "sgn(a)", "a+b", "a-b", "a*b", "a/b", "a%b", "a/max(b,1)", "a%max(b,3)", "a<<b", "a>>b", "a<<(b&7)", "a>>(b&31)", "a&b", "a|b", "a^b",
	"a<b", "a<=b", "a>b", "a>=b", "a==b", "a!=b", "min(a,b)", "max(a,b)", "clamp(a,b,c)", "med(a,b,c)", "a?b:c", "a/3", "a%10", "a*16", "a&255",
}

func letter(b byte) bool { return 'a' <= b && b <= 'z' }

// written answers an expression of at most so many levels as a text, in which so many names may be used.
func written(next func(int) int, form, deep, names int) string {
	if deep == 0 || next(6) == 0 {
		switch next(6) {
		case 0:
			return []string{"x", "y", "c", "lo", "hi", "mid"}[next(6)]
		case 1, 2:
			back, x, y := next(4), -1+next(2), -1
			return [][]string{{fmt.Sprintf("p(%d,%d)", x, y), fmt.Sprintf("q(%d,%d,%d)", back, x, y)}, {fmt.Sprintf("p(%d)", x-1), fmt.Sprintf("q(%d,%d)", back, x)}}[form][min(back, 1)]
		case 3:
			if names > 0 {
				return fmt.Sprintf("n%d", next(names))
			}
		}
		return fmt.Sprint([]int{0, 1, 2, 3, 31, 32, 255, 65535, most}[next(9)])
	}
	mark := marks[next(len(marks))]
	var text strings.Builder
	for i, b := range []byte(mark) {
		// A part is a letter that has none beside it.
		lone := (i == 0 || !letter(mark[i-1])) && (i == len(mark)-1 || !letter(mark[i+1]))
		if b >= 'a' && b <= 'c' && lone {
			text.WriteString("(" + written(next, form, deep-1, names) + ")")
		} else {
			text.WriteByte(b)
		}
	}
	return text.String()
}

func TestProgramsAtRandom(t *testing.T) {
	next := draw(17)
	took := 0
	for range 4000 {
		k := api.Kind{Form: next(2), Depth: 1 + next(16)}
		deep, names := 1+next(4), next(4)
		text := ""
		for i := range names {
			text += fmt.Sprintf("let n%d=%s;", i, written(next, k.Form, max(deep-2, 0), i))
		}
		text += written(next, k.Form, deep, names)
		if len(text) <= api.MaxText && means(t, next, k, text, windowsOf(k, 5), 2) {
			took++
		}
	}
	if took < 1500 {
		t.Errorf("%d programs are taken", took)
	}
}

// 21.3: codes that no program gives

// sketch answers a code of a kind that may be; places are below a number. Of a hundred instructions that would be refused so many are kept.
func sketch(next func(int) int, k api.Kind, count, places, kept int) api.Code {
	c := api.Code{Kind: k}
	for i := 0; i < count && code.Cost(c) < 194; i++ {
		c.Insts = append(c.Insts, drawn(next, c.Insts, places))
		if _, e := verify.Verify(c); e != api.OK && next(100) >= kept {
			c.Insts[i] = num(next(6) - 1)
		}
	}
	c.Out = next(len(c.Insts))
	return c
}

// drawn answers an instruction behind others.
func drawn(next func(int) int, list []api.Inst, places int) api.Inst {
	i := len(list)
	name := all[next(len(all))]
	if next(8) == 0 {
		name = []string{"div", "mod"}[next(2)]
	}
	if i == 0 || next(4) == 0 {
		name = []string{"num", "in", "place", "place"}[next(4)]
	}
	n := api.Inst{Op: slices.Index(names, name)}
	for _, r := range []*int{&n.A, &n.B, &n.C}[:readsOf(name)] {
		if *r = next(max(i, 1)); next(2) == 0 {
			*r = i - 1 - next(min(i, 4))
		}
	}
	if name == "div" || name == "mod" {
		n.B = numbered(next, list, n.B)
	}
	switch name {
	case "num":
		n.K = []int{0, 1, -1, 2, 3, 31, 1 << next(31), -1 << next(32), next(1 << 16), next(100) - 50}[next(10)]
	case "in":
		n.K = next(6)
	case "place":
		n.K = next(places)
	default:
		list := bounds(name)
		n.K, n.S = list[next(len(list))][0], list[next(len(list))][1]
	}
	return n
}

// numbered answers the register of a number among those ahead, or the one that it is given.
func numbered(next func(int) int, list []api.Inst, r int) int {
	for range 6 {
		if i := next(len(list)); list[i].Op == api.OpNum {
			return i
		}
	}
	return r
}

func TestCodesAtRandom(t *testing.T) {
	next := draw(81)
	got := map[api.Errno]int{}
	met := map[string]int{}
	for i := range 12000 {
		k := api.Kind{Form: next(2), Depth: 1 + next(16)}
		limit := kind.Count(k)
		if next(10) == 0 {
			limit = 60
		}
		count, kept := 1+next(18), 10
		if i%80 == 0 {
			count, kept = 100+next(101), 0
		}
		s, e := made(t, sketch(next, k, count, limit, kept))
		if got[e]++; e != api.OK {
			continue
		}
		for _, n := range s.c.Insts {
			met[names[n.Op]]++
		}
		for _, w := range windowsOf(k, 5) {
			s.runs(t, w)
		}
	}
	for e, least := range map[api.Errno]int{api.OK: 6000, api.ErrAhead: 50, api.ErrDivZero: 100, api.ErrOverflow: 200} {
		if got[e] < least {
			t.Errorf("the answer %d came %d times", e, got[e])
		}
	}
	for _, name := range all {
		if met[name] < 500 {
			t.Errorf("%s is run %d times", name, met[name])
		}
	}
}

// Behind every pass, and any orders of them, a code's chain answers what the code's own does.
func TestCodesBehindPasses(t *testing.T) {
	next := draw(83)
	longer, shorter := 0, 0
	for i := range 1500 {
		k := api.Kind{Form: next(2), Depth: 1 + next(16)}
		count := 1 + next(18)
		if i%50 == 0 {
			count = 100 + next(101)
		}
		s := taken(t, sketch(next, k, count, kind.Count(k), 0))
		list := passed(t, next, s.c, 4)
		for _, w := range windowsOf(k, 5) {
			want := s.runs(t, w)[s.c.Out]
			for _, d := range list {
				d.answers(t, w, want)
			}
		}
		for _, d := range list {
			switch was, is := len(s.c.Insts), len(d.c.Insts); {
			case is > was:
				longer++
			case is < was:
				shorter++
			}
		}
	}
	if longer < 100 || shorter < 2000 {
		t.Errorf("%d codes are longer, %d shorter", longer, shorter)
	}
}

// On every window of three places and a plane, of the least depths.
func TestAllWindows(t *testing.T) {
	next := draw(3)
	for _, k := range []api.Kind{{Form: api.Image, Depth: 1}, {Form: api.Sound, Depth: 1}, {Form: api.Image, Depth: 2}, {Form: api.Sound, Depth: 2}} {
		low, size := kind.Low(k), kind.High(k)-kind.Low(k)+1
		for range 60 {
			s := taken(t, sketch(next, k, 4+next(14), 3, 0))
			w := windowOf(k, uint(next(20)))
			for i := range size * size * size * 4 {
				w.P[0], w.P[1], w.P[2], w.C = low+i%size, low+i/size%size, low+i/size/size%size, i/size/size/size
				s.runs(t, w)
			}
		}
	}
}

// P1

// Whatever field of a code is changed, New answers what Verify does; what is taken still runs.
func TestOneThingChanged(t *testing.T) {
	next := draw(5)
	got := map[api.Errno]int{}
	for range 60 {
		k := api.Kind{Form: next(2), Depth: 1 + next(16)}
		c := sketch(next, k, 1+next(8), kind.Count(k), 0)
		fields := []*int{&c.Out, &c.Kind.Form, &c.Kind.Depth}
		for i := range c.Insts {
			n := &c.Insts[i]
			fields = append(fields, &n.Op, &n.A, &n.B, &n.C, &n.K, &n.S)
		}
		for _, field := range fields {
			old := *field
			for _, to := range append([]int{old - 1, old + 1, -1, 0, 1, 2, 5, 6, 30, 31, 32, 43, 44, 62, 63, 255, 256, len(c.Insts) - 1, len(c.Insts)}, far...) {
				*field = to
				s, e := made(t, c)
				if got[e]++; e == api.OK {
					s.runs(t, windowOf(c.Kind, uint(next(6))))
				}
			}
			*field = old
		}
	}
	for e, least := range map[api.Errno]int{api.OK: 500, api.ErrCode: 3000, api.ErrAhead: 20, api.ErrDivZero: 10, api.ErrOverflow: 30} {
		if got[e] < least {
			t.Errorf("the answer %d came %d times", e, got[e])
		}
	}
}

// Codes and windows of any numbers: whatever they are, there is an answer.
func TestWild(t *testing.T) {
	next := draw(7)
	number := func() int {
		switch next(12) {
		case 0:
			return next(8) - 1
		case 1:
			return append([]int{least, most, 1 << 31, 1 << 62, 255, 256}, far...)[next(6+len(far))]
		}
		return 0
	}
	var fixed []subject
	for _, text := range examples {
		fixed = append(fixed, taken(t, coded(text)))
	}
	took := 0
	for i := range 30000 {
		c := api.Code{Kind: api.Kind{Form: next(3), Depth: next(18)}, Out: number()}
		for range 1 + next(4) {
			c.Insts = append(c.Insts, api.Inst{Op: next(36) - 1, A: number(), B: number(), C: number(), K: number(), S: number()})
		}
		w := api.Window{X: number(), Y: number(), C: number()}
		for range []int{0, 1, 31, 44, next(60)}[next(5)] {
			w.P = append(w.P, 0)
		}
		for range len(w.P) / 20 {
			w.P[next(len(w.P))] = number()
		}
		if s, e := made(t, c); e == api.OK {
			s.runs(t, w)
			took++
		}
		fixed[i%len(fixed)].runs(t, w)
	}
	if took < 50 {
		t.Errorf("%d codes are taken", took)
	}
}

// What is written into a code behind New isn't seen: neither what may be nor what may not.
func TestCodesAreNotKept(t *testing.T) {
	w := windowOf(image, 4)
	for _, text := range examples {
		was := taken(t, coded(text))
		want := was.runs(t, w)[was.c.Out]
		for _, over := range []api.Inst{num(99), {Op: api.OpPlace, K: 255}, {Op: api.OpUse, A: -1}, {Op: api.OpDiv}, {Op: math.MaxInt, A: math.MinInt}} {
			c := was.c
			c.Insts = slices.Grow(slices.Clone(was.c.Insts), 20)
			unrun, _ := chain.New(c)
			run, _ := chain.New(c)
			was.comesTo(t, w, run, want)
			room := c.Insts[:cap(c.Insts)]
			for i := range room {
				room[i] = over
			}
			c.Kind, c.Out = sound, 77
			// Where what was written over may be, it is another code, of which a chain is run in between.
			anew, _ := chain.New(listed(image, room[:1]...))
			for _, x := range []*chain.Chain{unrun, run, unrun} {
				was.comesTo(t, w, x, want)
				anew.Run(w)
			}
		}
	}
}

// What is written into a window behind a run isn't seen by later runs, on this window or on another one.
func TestWindowsAreNotKept(t *testing.T) {
	seen := 0
	for _, text := range examples {
		s, fresh := taken(t, coded(text)), taken(t, coded(text))
		for seed := range uint(6) {
			other := windowOf(image, seed+20)
			w := copied(windowOf(image, seed))
			before, e := s.x.Run(w)
			if e != api.OK {
				t.Fatalf("%s on %v: %d", text, w, e)
			}
			for i := range w.P {
				w.P[i] = 255 - w.P[i]
			}
			after, e := s.x.Run(w)
			if want := fresh.runs(t, w); e != api.OK || after != want[s.c.Out] {
				t.Errorf("%s on %v, written over: Run answers %d, %d, not of %v", text, w, after, e, want)
			}
			if before != after {
				seen++
			}
			for i := range w.P {
				w.P[i] = -1
			}
			s.comesTo(t, other, s.x, fresh.runs(t, other)[s.c.Out])
			s.unfit(t, w)
			s.comesTo(t, windowOf(image, seed), s.x, before)
		}
	}
	if seen < 30 {
		t.Errorf("%d windows come to something else when they are written over", seen)
	}
}

func TestEmptyListsAreNone(t *testing.T) {
	for _, insts := range [][]api.Inst{nil, {}} {
		refused(t, api.Code{Kind: image, Insts: insts}, api.ErrCode)
	}
	for _, p := range [][]int{nil, {}} {
		taken(t, coded("num 1")).unfit(t, api.Window{P: p})
		runsNothing(t, nil, api.Window{P: p})
	}
}

// The tests' own windows, operators and kinds are those of the layers below.
func TestTheTestsModel(t *testing.T) {
	kinds(func(k api.Kind) {
		low, high, border := samples(k)
		if low != kind.Low(k) || high != kind.High(k) || border != kind.Border(k) || places(k.Form) != kind.Count(k) {
			t.Errorf("%v: %d, %d, %d, %d places", k, low, high, border, places(k.Form))
		}
		for _, w := range windowsOf(k, 50) {
			if !fits(k, w) || kind.Fits(k, w) != api.OK {
				t.Errorf("%v: %v doesn't fit", k, w)
			}
		}
		unfitting(k, func(w api.Window) {
			if fits(k, w) || kind.Fits(k, w) != api.ErrInput {
				t.Errorf("%v: %v fits", k, w)
			}
		})
	})
	for op, name := range names {
		want := -1
		if slices.Contains(all, name) {
			want = readsOf(name)
		}
		if arith.Arity(op) != want {
			t.Errorf("%s reads %d registers", name, arith.Arity(op))
		}
	}
	if len(all) != 32 || names[api.OpMulS] != "muls" || names[api.OpAdd] != "add" || names[api.OpClamp] != "clamp" || names[api.OpPlace] != "place" {
		t.Errorf("the operators are %v", names)
	}
}
