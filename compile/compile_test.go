package compile_test

import (
	"bytes"
	"fmt"
	"math"
	"slices"
	"strings"
	"testing"

	"damask/api"
	"damask/arith"
	"damask/code"
	"damask/compile"
	"damask/kind"
	"damask/lower"
	"damask/pack"
	"damask/parse"
	"damask/passes"
	"damask/verify"
)

// far are numbers far from all that may stand in a code or in a window.
var far = []int{math.MinInt, math.MinInt + 1, -1 << 62, -1 << 32, least - 1, 1 << 32, 1<<32 + 1, 1<<62 + 1, math.MaxInt - 1, math.MaxInt}

// The chapter's examples, and the document's

// noughts answers a window of {Image, 8}, of noughts but for the sample to the left.
func noughts(left int) api.Window {
	w := api.Window{P: make([]int, 44)}
	w.P[16] = left
	return w
}

func TestExamples(t *testing.T) {
	s := taken(t, "( p( -1 , 0 ) + p( -1 , 0 ) ) / 2", image)
	s.is(t, "(p(-1,0)+p(-1,0))/2", 8, "place 16; add 0 0; shrk 1 1")
	l, e := loaded(t, octets("1 0 8 3, 3 16, 8 0 0, 30 0 1, 0"), image)
	if e != api.OK || l.p.Cost() != 3 || !l.p.Same(s.p) {
		t.Errorf("loaded: %d, the cost %d", e, l.p.Cost())
	}
	for _, left := range []int{0, 1, 77, 255} {
		s.answers(t, noughts(left), left)
		l.answers(t, noughts(left), left)
	}
	refused(t, "1+", image, api.ErrSyntax)
	refused(t, "p(0,0)/0", image, api.ErrAhead)
	refusedBytes(t, s.p.Bytes(), api.Kind{Form: api.Sound, Depth: 8}, api.ErrProgram)
}

// The document's examples 1 to 6.
func TestExamplesOfTheWhole(t *testing.T) {
	s := taken(t, "(p(-1,0)+p(0,-1))/2", image)
	s.is(t, "(p(-1,0)+p(0,-1))/2", 8, "place 16; place 10; add 0 1; shrk 2 1")
	refused(t, "1/(p(-1,0)-p(0,-1))", image, api.ErrDivZero)
	taken(t, "1/(abs(p(-1,0)-p(0,-1))+1)", image)
	refused(t, "p(1,0)", image, api.ErrAhead)
	taken(t, "p(1,-1)", image)
	refused(t, "p(1,-1)", api.Kind{Form: api.Sound, Depth: 8}, api.ErrAhead)
	refused(t, "x*x", sound, api.ErrOverflow)
	taken(t, "(x&255)*(x&255)", sound)
	w := noughts(7)
	w.P[10], w.P[9] = 30, 10
	taken(t, median, image).answers(t, w, 27)
	third := taken(t, "p(-1,0)/3", image)
	third.is(t, "p(-1,0)/3", 6, "place 16; muls 0 171 9")
	third.answers(t, noughts(255), 85)
}

// 22.1: what a text becomes

// byHand are texts, with what their programs tell.
var byHand = []struct {
	k           api.Kind
	text, tight string
	cost        int
	insts       string
}{
	{image, "1", "1", 1, "num 1"}, {image, "\t x # the column\n", "x", 1, "in x"}, {image, "((lo))", "lo", 1, "num 0"}, {image, "hi", "hi", 1, "num 255"}, {image, "mid", "mid", 1, "num 128"},
	{image, "p( -1,0 ) * 8", "p(-1,0)*8", 3, "place 16; shlk 0 3"}, {image, "p(-1,0)%8", "p(-1,0)%8", 8, "place 16; andk 0 7"}, {image, "p(-1,0)%3", "p(-1,0)%3", 8, "place 16; muls 0 171 9; mulk 1 3; sub 0 2"}, {image, "x&255", "x&255", 3, "in x; andk 0 255"}, {image, "5*x", "5*x", 3, "in x; mulk 0 5"},
	{image, "let a = hi ; (a*a)", "let a=hi;a*a", 2, "num 65025"}, {image, "let a=p(-1,0)+1;a*a", "let a=p(-1,0)+1;a*a", 4, "place 16; num 1; add 0 1; mul 2 2"}, {image, "let unused=p(0,-1);x", "let unused=p(0,-1);x", 2, "in x"},
	{image, "x+0", "x+0", 3, "in x"}, {image, "x-x", "x-x", 3, "num 0"}, {image, "-(-x)", "--x", 3, "in x"}, {image, "x?1:(2)", "x?1:2", 4, "in x; num 1; num 2; sel 0 1 2"}, {image, "clamp(p(-1,0),lo,hi)", "clamp(p(-1,0),lo,hi)", 4, "place 16; num 0; num 255; clamp 0 1 2"},
	{image, "(p(-1,0)+p(0,-1))-(p(0,-1)+p(-1,0))", "p(-1,0)+p(0,-1)-(p(0,-1)+p(-1,0))", 7, "num 0"}, {image, "q(1,1,1)-(y-c)", "q(1,1,1)-(y-c)", 5, "place 25; in y; in c; sub 1 2; sub 0 3"},
	{sound, "p( -1 )", "p(-1)", 1, "place 15"}, {sound, "2*p(-1)-p(-2)", "2*p(-1)-p(-2)", 5, "place 15; shlk 0 1; place 14; sub 1 2"}, {sound, "p(-1)/4", "p(-1)/4", 6, "place 15; shrk 0 31; andk 1 3; add 0 2; shrk 3 2"}, {sound, "lo", "lo", 1, "num -32768"}, {sound, "hi+mid", "hi+mid", 3, "num 32767"}, {sound, "y", "y", 1, "in y"}, {sound, "q(1,0)", "q(1,0)", 1, "place 20"},
	{api.Kind{Form: api.Image, Depth: 1}, "hi+lo+mid", "hi+lo+mid", 5, "num 2"}, {api.Kind{Form: api.Sound, Depth: 1}, "lo*3-hi", "lo*3-hi", 5, "num -3"}, {api.Kind{Form: api.Image, Depth: 16}, "p(-1,0)<<15", "p(-1,0)<<15", 3, "place 16; shlk 0 15"},
}

func TestProgramsByHand(t *testing.T) {
	for _, h := range byHand {
		s := taken(t, h.text, h.k)
		s.is(t, h.tight, h.cost, h.insts)
		for _, w := range windowsOf(h.k, 5) {
			s.runs(t, w)
		}
	}
}

const median = "med(p(-1,0),p(0,-1),p(-1,0)+p(0,-1)-p(-1,-1))"

// programs are ordinary ones, of images, of sounds and of both.
var programs = []string{
	"1", "x", "y", "c", "lo", "hi", "mid", "p(-1,0)", "q(1,-1)", "q(3,1,1)", "p(-16)", "p(-1,0)+1", "(p(-1,0)+p(0,-1))/2", median,
	"let a=p(-1,0);let b=p(0,-1);let c0=p(-1,-1);c0>=max(a,b)?min(a,b):c0<=min(a,b)?max(a,b):a+b-c0",
	"1/(abs(p(-1,0)-p(0,-1))+1)", "(x&255)*(x&255)", "x*x", "x*y", "2*p(-1)-p(-2)", "clamp(2*p(-1)-p(-2),lo,hi)", "let a=hi;a*a", "x?1:y?2:3", "c?q(1,0,0)+p(-1,0)-q(1,-1,0):mid", "let d=abs(p(-1,0)-p(0,-1));d<2?0:d<8?1:d<32?2:3",
	"-x", "--x-(--x)", "sgn(-x)<<3>>1", "1<<2<3|4&5^6", "let a=1;let b=a;let c2=a+b;(c2%3==0)!=(a>b)", "min(x,max(y,-c))+min(max(-c,y),x)", "let unused=q(3,-4);2147483647", "let e=p(-1)-p(-2);e/3+e%5*(e>>1)-(e<<2)&7|-e^c",
	"let a=p(-1);let b=p(-2);let s=a+b;let d=a-b;let u=s*2;u/3", "(p(-1)-p(-2))/3+(p(-1)-p(-2))%5*(p(-1)-p(-2)>>1)-(p(-1)-p(-2)<<2)&7", "hi-lo+1-(hi-lo+1)", "(p(-1)+p(-2))*(p(-2)+p(-1)&255)", "p(-1,0)*32768", "p(-1)<<15", "p(-1)<<16",
	"x%((p(-1)&7)+1)", "x>>(p(-1,0)&15)", "1<<(p(-1,0)&15)", "1/(hi-1)", "1/(lo+2)", "1<<(hi>>12)", "hi*hi", "1/mid", "p(-1)-p(-2)?p(-1)/3:p(-2)%3", "let a=p(-1)<0?-p(-1):p(-1);a==abs(p(-1))", "p(-1,0)/3", "p(-1,0)%10",
	"p(-1)%10", "8*p(-1)/10", "(p(-1)*3-p(-2)*3+p(-3)+2)/4%256", "1<<p(-1)%3+2", "1/(p(-1)%3+3)", "x/10%10", "(x/3+y/5)%7", "p(-1)/2147483647", "p(-1)/-3", "p(-1)%-4", "p(-1)-p(-1)/7*7-p(-1)%7",
	"0" + strings.Repeat("+1%2", 22), strings.Repeat("-", 23) + "1", "p(-1)" + strings.Repeat("/2", 22), "x" + strings.Repeat("%4096", 22),
}

// Ordinary programs for all kinds, step by step.
func TestStepByStep(t *testing.T) {
	count := map[string]int{}
	kinds(func(k api.Kind) {
		for _, text := range programs {
			s, e := compiled(t, text, k)
			if e != api.OK {
				continue
			}
			count[text]++
			for _, w := range windowsOf(k, 6) {
				s.runs(t, w)
			}
		}
	})
	for _, text := range programs {
		if count[text] == 0 {
			t.Errorf("%q is a program of no kind", text)
		}
	}
	for text, want := range map[string]int{"1": 32, "x": 32, "p(-1,0)": 16, "p(-16)": 16, median: 16, "x*x": 16, "x*y": 32, "1/(hi-1)": 30, "1/mid": 16, "(p(-1,0)+p(0,-1))/2": 16, "1/(abs(p(-1,0)-p(0,-1))+1)": 16} {
		if count[text] != want {
			t.Errorf("%q is a program of %d kinds, not of %d", text, count[text], want)
		}
	}
}

// The passes are those of the usual order: of each of them some program tells whether it was left out.
func TestTheUsualOrder(t *testing.T) {
	all := []int{passes.Fold, passes.Share, passes.Reduce, passes.Fold, passes.Share, passes.Prune}
	told := map[int]int{}
	for _, text := range append(slices.Clone(programs), "(x-x+p(-1,0))*3-3*p(-1,0)", "x/4-x/4", "(p(-1)/4)-(p(-1)/4)+(p(-1)/4)", "x%1+y*1", "(x*8&255)-(8*x&255)", "let a=p(-1)/8;let b=p(-1)%8;a-b", "x*(2*4)", "x/(1+1)") {
		for _, k := range []api.Kind{image, sound} {
			s, e := compiled(t, text, k)
			if e != api.OK {
				continue
			}
			c := lowered(t, text, k)
			for i := range all {
				less, e := passes.Run(c, slices.Delete(slices.Clone(all), i, i+1)...)
				if e != api.OK {
					t.Fatalf("Run: %d", e)
				}
				if !code.Same(less, s.p.Code()) {
					told[i]++
				}
			}
		}
	}
	for i := range all {
		if told[i] == 0 {
			t.Errorf("no program tells whether the pass at %d is done", i)
		}
	}
}

// Blanks, remarks and brackets about a whole choice change nothing.
func TestWhatChangesNothing(t *testing.T) {
	for _, text := range programs {
		for _, k := range []api.Kind{image, sound} {
			s, e := compiled(t, text, k)
			if e != api.OK {
				continue
			}
			cut := strings.LastIndex(text, ";") + 1
			for _, other := range []string{" " + text + "\n", "# p(\n" + text + "# 1+", strings.NewReplacer(",", " ,\t", ";", ";# one\r\n", "(", "( ", "?", "\n?\n", "let ", "let\n").Replace(text), text[:cut] + "((" + text[cut:] + "))"} {
				o, e := compiled(t, other, k)
				if e != api.OK || !o.p.Same(s.p) || o.p.Text() != s.p.Text() || o.p.Cost() != s.p.Cost() {
					t.Errorf("%q for %v: %d, or it isn't %q", other, k, e, text)
				}
			}
		}
	}
}

// 22.1: what is refused

// harmful are texts that are refused for {Image, 8}, by their errors: of several faults the first in the order is told.
var harmful = map[api.Errno][]string{
	api.ErrSyntax: {
		"", " ", "# 1", "1 2", "(1", "1)", "1<2<3", "let a=1;let a=2;a", "let x=1;x", "let a=a;1", "let a=1", "let a=1;", "a", "p", "p()", "p(x)", "p(1,2,3)", "p(-x,0)", "p(--1,0)", "q(0,1)", "q(1)", "q(1,2,3,4)", "abs(1,2)", "abs()", "min(1)", "max(1,2,3)", "clamp(1,2)", "med(1,2)", "1?2", "1:2", "1;", "+1", "1+", "1!", "01", "2147483648", "1==2==3", "A", "1.5", "\x00", "\xff", "é", "let", "let let=1;1", "let a1=1;a2", "abcdefghijklmnopq",
		"p(0,0)/0+", "1/0)", "(2147483647+1", "let a=p(9,9);let a=1;a", strings.Repeat("-", 30), "x<y<p(0,0)", strings.Repeat(" ", 1024) + "1", "1" + strings.Repeat(" ", 1024), "1#" + strings.Repeat("x", 1023), strings.Repeat("1+", 512) + "1", strings.Repeat("(", 70000),
	},
	api.ErrAhead: {
		"p(0,0)", "p(1,0)", "p(-4,0)", "p(0,-3)", "p(4,-1)", "p(-1)", "p(-1,1)", "q(1,2,0)", "q(1,0,2)", "q(4,0,0)", "q(1,-1)", "q(2147483647,0,0)", "p(-2147483647,-2147483647)", "p(0,2147483647)",
		"p(0,0)/0", "1/0+p(0,0)", "2147483647+1+p(1,0)", "let a=p(0,0);1", "1?p(-1,0):p(0,0)", "0*p(0,0)", strings.Repeat("-", 24) + "p(0,0)", strings.Repeat("1%2+", 40) + "p(0,0)", "1<<32<<p(1,1)",
	},
	api.ErrDivZero: {
		"1/0", "1%0", "1/p(-1,0)", "1%p(-1,0)", "1/(x-y)", "x/lo", "1/(mid-128)", "let a=1/0;1", "0?1/0:1", "0*(1/0)", "1/0+(2147483647+1)", "1/(p(-1,0)-p(-1,0))", "0/0", "1/c", "1%(x&7)", strings.Repeat("-", 24) + "(1/0)", strings.Repeat("1%2+", 40) + "1/0", "(1/0)/(2147483647*2)",
	},
	api.ErrOverflow: {
		"2147483647+1", "-2147483647-2", "65536*32768", "1<<31", "1<<32", "1<<-1", "x<<x", "1>>32", "1>>p(-1,0)", "p(-1,0)<<24", "-(-2147483647-1)", "abs(-2147483647-1)", "(-2147483647-1)/-1", "let a=2147483647*2;1", "1?1:2147483647*2", "0*(2147483647+1)", "x*x*x", "(2147483647+1)+1/0", "(2147483647+1)/0", strings.Repeat("-", 24) + "(2147483647+1)", "2147483647+1" + strings.Repeat("+1%2", 30), "hi*hi*hi*hi",
	},
	api.ErrCost: {
		strings.Repeat("-", 24) + "1", strings.Repeat("-", 200) + "1", "0" + strings.Repeat("+1%2", 23), strings.Repeat("1+", 24) + "1", "1" + strings.Repeat("/2", 41), strings.Repeat("abs(", 24) + "x" + strings.Repeat(")", 24), balanced("1%2", 25), balanced("1%2", 22) + "---x", "let a=" + strings.Repeat("-", 12) + "1;" + strings.Repeat("-", 12) + "a", strings.Repeat("x?1:", 24) + "2",
	},
}

func TestHarmfulTexts(t *testing.T) {
	for want, list := range harmful {
		for _, text := range list {
			refused(t, text, image, want)
		}
	}
}

// Whether a text is taken hangs on its kind.
func TestTheKindTells(t *testing.T) {
	deep := api.Kind{Form: api.Image, Depth: 16}
	for text, want := range map[string][3]api.Errno{
		"p(-1,0)": {api.OK, api.OK, api.ErrAhead}, "p(-1)": {api.ErrAhead, api.ErrAhead, api.OK}, "q(3,0,0)": {api.OK, api.OK, api.ErrAhead}, "q(3,0)": {api.ErrAhead, api.ErrAhead, api.OK}, "x*x": {api.OK, api.OK, api.ErrOverflow}, "x*y": {},
		"1/mid": {api.OK, api.OK, api.ErrDivZero}, "1/lo": {api.ErrDivZero, api.ErrDivZero, api.OK}, "hi*hi": {api.OK, api.ErrOverflow, api.OK}, "hi<<16": {api.OK, api.ErrOverflow, api.OK}, "1<<hi": {api.ErrOverflow, api.ErrOverflow, api.ErrOverflow}, "p(-1,0)<<16": {api.OK, api.ErrOverflow, api.ErrAhead}, "lo*lo*2": {api.OK, api.OK, api.ErrOverflow}, "1%(hi-255)": {api.ErrDivZero, api.OK, api.OK},
	} {
		for i, k := range []api.Kind{image, deep, sound} {
			if s, e := compiled(t, text, k); e != want[i] || (s.p == nil) != (e != api.OK) {
				t.Errorf("%q for %v: %d, not %d", text, k, e, want[i])
			}
		}
	}
}

// Texts as long, as dear and as deep as may be, and by one more.
func TestLimits(t *testing.T) {
	for _, text := range []string{"1" + strings.Repeat(" ", 1023), strings.Repeat("\n", 1023) + "x", "1#" + strings.Repeat("\xff", 1022)} {
		taken(t, text, image)
		refused(t, text+" ", image, api.ErrSyntax)
	}
	for _, h := range []struct {
		text string
		cost int
		next string
	}{
		{"0" + strings.Repeat("+1%2", 22), 199, "0" + strings.Repeat("+1%2", 22) + "+1"}, {balanced("1%2", 22) + "-x", 199, balanced("1%2", 22) + "-x-1"}, {balanced("1%2", 22) + "--x", 200, balanced("1%2", 22) + "---x"}, {strings.Repeat("-", 23) + "1", 24, strings.Repeat("-", 24) + "1"}, {"let a=" + strings.Repeat("-", 12) + "x;" + strings.Repeat("-", 11) + "a", 24, "let a=" + strings.Repeat("-", 12) + "x;" + strings.Repeat("-", 12) + "a"},
	} {
		for _, k := range []api.Kind{image, sound} {
			s := taken(t, h.text, k)
			if s.p.Cost() != h.cost {
				t.Errorf("%q costs %d, not %d", h.text, s.p.Cost(), h.cost)
			}
			for _, w := range windowsOf(k, 3) {
				s.runs(t, w)
			}
			refused(t, h.next, k, api.ErrCost)
		}
	}
}

// balanced writes a sum of so many equal parts that isn't deep.
func balanced(part string, count int) string {
	if count == 1 {
		return part
	}
	return "(" + balanced(part, count/2) + "+" + balanced(part, count-count/2) + ")"
}

// strange are kinds that may not be.
func strange() []api.Kind {
	list := []api.Kind{{}, {Form: 2, Depth: 8}, {Form: -1, Depth: 8}, {Form: 0, Depth: 0}, {Form: 0, Depth: 17}, {Form: 1, Depth: 0}, {Form: 1, Depth: 17}, {Form: 0, Depth: -1}, {Form: 256, Depth: 8}, {Form: 0, Depth: 264}}
	for _, n := range far {
		list = append(list, api.Kind{Form: n, Depth: 8}, api.Kind{Form: 0, Depth: n}, api.Kind{Form: 1, Depth: n}, api.Kind{Form: n, Depth: n})
	}
	return list
}

// The kind is asked ahead of all else.
func TestStrangeKinds(t *testing.T) {
	whole := taken(t, median, image).p.Bytes()
	for _, k := range strange() {
		for _, list := range harmful {
			for _, text := range append(slices.Clone(list), "1", median) {
				refused(t, text, k, api.ErrInput)
			}
		}
		own := slices.Clone(whole)
		own[1], own[2] = byte(k.Form), byte(k.Depth)
		for _, b := range [][]byte{nil, {}, {1}, {2}, whole, own, whole[:5], append(slices.Clone(whole), 0), make([]byte, 5000), octets("1 0 8 1, 3 44, 0")} {
			refusedBytes(t, b, k, api.ErrInput)
		}
	}
}

// 22.2

// quotients writes two numbers and so many divisions of the one by the other: 4 each, and 2.
func quotients(count int) string { return "num 1; num 2" + strings.Repeat("; div 0 1", count) }

// coming are codes that may be, of {Image, 8}, by the error that Verify answers.
var coming = map[api.Errno][]string{
	api.ErrAhead:    {"place 44", "num 1; place 255; out 0", "num 0; div 0 0; place 44", "num most; add 0 0; place 44", quotients(50) + "; place 44"},
	api.ErrDivZero:  {"num 0; div 0 0", "place 16; mod 0 0", "num 1; num 0; div 0 1; out 0", "num 1; in lo; mod 0 1; num 7", "num 0; div 0 0; num most; add 2 2", "place 16; place 10; sub 0 1; div 0 2", quotients(50) + "; in lo; mod 0 52"},
	api.ErrOverflow: {"num most; num 1; add 1 0", "num least; neg 0; num 1", "num least; abs 0", "num least; num -1; div 0 1", "place 16; shlk 0 24; out 0", "num 1; num 32; shl 0 1", "num 2; muls 0 4611686018427387904 62", "num 1; shlk 0 31; num 0; div 2 2", quotients(50) + "; num most; mulk 52 2"},
	api.ErrCost:     {quotients(50), quotients(50) + "; out 0", repeated("place 16; num 4", "mod 0 1", 34), quotients(49) + "; num 1; num 2; num 3"},
}

// Of a harmful code's bytes its own kind is told Verify's error, every other one ErrProgram, and what is cut short is short for all.
func TestHarmfulCodes(t *testing.T) {
	for want, list := range coming {
		for _, text := range list {
			b, e := pack.Encode(coded(text))
			if e != api.OK {
				t.Fatalf("Encode of %s: %d", text, e)
			}
			kinds(func(k api.Kind) {
				if k == image {
					refusedBytes(t, b, k, want)
				} else {
					refusedBytes(t, b, k, api.ErrProgram)
				}
				refusedBytes(t, b[:len(b)-1], k, api.ErrShort)
				refusedBytes(t, append(slices.Clone(b), 0), k, api.ErrTail)
			})
		}
	}
}

// What Decode refuses is told ahead of the kind, whichever it is.
func TestBytesThatAreNone(t *testing.T) {
	for text, want := range map[string]api.Errno{
		"": api.ErrShort, "1": api.ErrShort, "1 0": api.ErrShort, "1 0 8": api.ErrShort, "1 0 8 1": api.ErrShort, "1 0 8 1, 1": api.ErrShort, "1 0 8 1, 1 0": api.ErrShort, "1 0 8 1, 1 0x80": api.ErrShort,
		"0": api.ErrForm, "2 0 8 1, 1 0, 0": api.ErrForm, "255": api.ErrForm, "1 0 8 0x81 0, 1 0, 0": api.ErrForm, "1 0 8 1, 1 0x80 0, 0": api.ErrForm,
		"1 0 8 0": api.ErrCode, "1 0 8 0xc9 1": api.ErrCode, "1 2 8 1, 1 0, 0": api.ErrCode, "1 0 0 1, 1 0, 0": api.ErrCode, "1 0 17 1, 1 0, 0": api.ErrCode, "1 0 8 1, 4 0": api.ErrCode, "1 0 8 1, 5 0, 0": api.ErrCode, "1 0 8 1, 1 0, 1": api.ErrCode, "1 0 8 1, 2 6, 0": api.ErrCode, "1 0 8 1, 0, 0": api.ErrCode, "1 0 8 1, 34, 0": api.ErrCode,
		"1 0 8 1, 1 0, 0 0": api.ErrTail, "1 0 8 1, 3 44, 0 7": api.ErrTail,
	} {
		kinds(func(k api.Kind) { refusedBytes(t, octets(text), k, want) })
	}
	kinds(func(k api.Kind) {
		refusedBytes(t, make([]byte, 4097), k, api.ErrLimit)
		refusedBytes(t, append(octets("1 0 8 1, 1 0, 0"), make([]byte, 70000)...), k, api.ErrLimit)
		refusedBytes(t, append(octets("1 0 8 1, 1 0, 0"), make([]byte, 4089)...), k, api.ErrTail)
	})
}

// Bytes of programs, cut anywhere, for their own kind and for others.
func TestBytesCutShort(t *testing.T) {
	for _, h := range byHand {
		b := taken(t, h.text, h.k).p.Bytes()
		for i := range b {
			for _, k := range []api.Kind{h.k, image, sound} {
				refusedBytes(t, b[:i], k, api.ErrShort)
			}
		}
	}
}

// A program's bytes are loaded for its own kind, and for no other.
func TestOtherKinds(t *testing.T) {
	kinds(func(own api.Kind) {
		for _, text := range []string{"1", "x+c", "(hi+lo+1)/2", "p(-1,0)", "p(-1)", median} {
			s, e := compiled(t, text, own)
			if e != api.OK {
				continue
			}
			kinds(func(k api.Kind) {
				want := api.OK
				if k != own {
					want = api.ErrProgram
				}
				if l, e := loaded(t, s.p.Bytes(), k); e != want || (l.p == nil) != (want != api.OK) {
					t.Errorf("%q of %v, loaded for %v: %d", text, own, k, e)
				}
			})
		}
	})
}

// wasteful are harmless codes that no pass has seen: what is never read, what is known ahead, what stands twice, what is dear.
var wasteful = []string{
	"num 1; num 2", "num 1; num 2; out 0", "num 2; num 3; add 0 1", "place 16; place 16; add 0 1", "place 16; num 3; div 0 1", "place 16; num 8; mod 0 1", "place 16; num 8; mul 0 1; neg 2; neg 3", "in hi; in lo; sub 0 1", "place 16; sub 0 0", "place 10; place 16; add 1 0; add 0 1; sub 2 3; out 2", "place 16; mulk 0 1; shlk 1 0", "num 0; num 1; num 2; sel 0 1 2", quotients(49) + "; num 1; num 1; out 0", repeated("num 0", "num @1", 199) + "; out 0", repeated("place 16", "neg @1", 199),
}

// Of what is loaded no pass is done.
func TestLoadedAsItIs(t *testing.T) {
	for _, text := range wasteful {
		c := coded(text)
		s := brings(t, c)
		if best, e := passes.Best(c); e != api.OK || code.Same(best, c) {
			t.Errorf("Best(%s): %d, or it stays", text, e)
		}
		if !code.Same(s.p.Code(), c) || s.p.Cost() != code.Cost(c) || s.p.Text() != "" || s.p.Kind() != image {
			t.Errorf("%s is loaded as %s, the cost %d, %q, %v", text, shown(s.p.Code()), s.p.Cost(), s.p.Text(), s.p.Kind())
		}
		for _, w := range windowsOf(image, 6) {
			s.runs(t, w)
		}
	}
	s := brings(t, coded("place 16; num 3; div 0 1; mod 0 1; out 1"))
	if s.p.Cost() != 12 {
		t.Errorf("the cost is %d", s.p.Cost())
	}
	s.answers(t, noughts(9), 3)
}

// 22.3

// mixed are programs of all sorts, of some kinds: compiled ones, and behind each of them the one that its bytes are loaded as.
func mixed(t *testing.T) []subject {
	var list []subject
	for _, h := range byHand {
		s := taken(t, h.text, h.k)
		l, _ := loaded(t, s.p.Bytes(), h.k)
		list = append(list, s, l)
	}
	for _, text := range []string{"1", "1+0", "2-1", "x", "y", "x+y", "y+x", "x-y", median} {
		for _, k := range []api.Kind{image, {Form: api.Image, Depth: 9}} {
			s := taken(t, text, k)
			l, _ := loaded(t, s.p.Bytes(), k)
			list = append(list, s, l)
		}
	}
	return list
}

func TestSame(t *testing.T) {
	list := mixed(t)
	for _, text := range wasteful {
		list = append(list, brings(t, coded(text)))
	}
	alike := 0
	for i, a := range list {
		for j, b := range list {
			same := a.p.Same(b.p)
			if same != code.Same(a.c, b.c) || same != bytes.Equal(a.p.Bytes(), b.p.Bytes()) {
				t.Errorf("%s, %s: Same answers %v", shown(a.c), shown(b.c), same)
			}
			if same && i != j {
				alike++
			}
		}
		if a.p.Same(nil) || (*compile.Program)(nil).Same(a.p) {
			t.Errorf("%s is the same as a nil program", shown(a.c))
		}
	}
	if alike < len(list) {
		t.Errorf("%d of %d programs are alike", alike, len(list))
	}
}

func TestSameByHand(t *testing.T) {
	for _, h := range []struct {
		a, b string
		want bool
	}{
		{"2", "1+1", true}, {"x", "x*1", true}, {"x", "--x", true}, {"x", "let a=y;x", true}, {"p(-1,0)*2", "2*p(-1,0)", true}, {"p(-1,0)%8", "p(-1,0)&7", true}, {"p(-1,0)*2", "p(-1,0)<<1", true}, {"hi", "255", true},
		{"x", "y", false}, {"1", "2", false}, {"x-y", "y-x", false}, {"p(-1,0)", "p(0,-1)", false}, {"x", "x?1:2", false}, {"x+x", "2*x", false},
	} {
		a, b := taken(t, h.a, image), taken(t, h.b, image)
		bytes, _ := loaded(t, b.p.Bytes(), image)
		if a.p.Same(b.p) != h.want || b.p.Same(a.p) != h.want || a.p.Same(bytes.p) != h.want || bytes.p.Same(a.p) != h.want {
			t.Errorf("%q, %q: Same answers %v", h.a, h.b, !h.want)
		}
	}
	// One text for two kinds is two programs.
	for _, text := range []string{"1", "x", "c+y"} {
		if taken(t, text, image).p.Same(taken(t, text, sound).p) {
			t.Errorf("%q: programs of two kinds are the same", text)
		}
	}
}

func TestNilProgram(t *testing.T) {
	var p *compile.Program
	if p.Text() != "" || p.Kind() != (api.Kind{}) || p.Cost() != 0 || len(p.Bytes()) != 0 || p.Same(nil) || p.Same(p) || p.Same(taken(t, "1", image).p) || taken(t, "1", image).p.Same(p) {
		t.Errorf("a nil program tells %q, %v, %d, %v", p.Text(), p.Kind(), p.Cost(), p.Bytes())
	}
	if c := p.Code(); c.Kind != (api.Kind{}) || len(c.Insts) != 0 || c.Out != 0 {
		t.Errorf("a nil program's code is %s", shown(c))
	}
	kinds(func(k api.Kind) {
		for _, w := range windowsOf(k, 4) {
			runsNothing(t, nil, w)
		}
	})
	for _, w := range []api.Window{{}, {X: -1}, {P: []int{}}, {P: make([]int, 1000)}, {X: math.MaxInt, Y: math.MinInt, C: 5, P: far}} {
		runsNothing(t, nil, w)
	}
}

// 22.4

// unfitting goes over windows that don't fit a kind, each with one thing spoilt of one that does.
func unfitting(k api.Kind, do func(w api.Window)) {
	good := windowOf(k, 3)
	x, y, c := ends(k.Form)
	for _, n := range append([]int{-1, -2}, far...) {
		for _, w := range []api.Window{{X: n, Y: good.Y, C: good.C}, {X: good.X, Y: n, C: good.C}, {X: good.X, Y: good.Y, C: n}} {
			w.P = good.P
			do(w)
		}
	}
	do(api.Window{X: x + 1, Y: good.Y, C: good.C, P: good.P})
	do(api.Window{X: good.X, Y: y + 1, C: good.C, P: good.P})
	do(api.Window{X: good.X, Y: good.Y, C: c + 1, P: good.P})
	// Lists of other lengths; the spare room of what is too short has what is missing.
	for _, list := range [][]int{nil, {}, good.P[:1], good.P[:len(good.P)-1], good.P[1:], append(slices.Clone(good.P), good.P[0]), slices.Repeat(good.P, 2), make([]int, 1<<16)} {
		do(api.Window{X: good.X, Y: good.Y, C: good.C, P: list})
	}
	low, high, _ := samples(k)
	for n := range good.P {
		for _, sample := range append([]int{low - 1, high + 1, low - 1<<k.Depth, low + 1<<32, high - 1<<32}, far...) {
			w := copied(good)
			w.P[n] = sample
			do(w)
		}
	}
}

func TestWindowsThatDontFit(t *testing.T) {
	kinds(func(k api.Kind) {
		for _, text := range []string{"1", "x-y+c", []string{"p(-1,0)+q(3,1,1)", "p(-16)+q(3,0)"}[k.Form]} {
			s := taken(t, text, k)
			l, _ := loaded(t, s.p.Bytes(), k)
			want, _ := s.runs(t, windowOf(k, 5))
			unfitting(k, func(w api.Window) {
				s.unfit(t, w)
				l.unfit(t, w)
			})
			// Runs that were refused aren't seen.
			s.answers(t, windowOf(k, 5), want)
			l.answers(t, windowOf(k, 5), want)
		}
	})
}

// Windows of other kinds fit where they have just the places, with samples of this kind.
func TestWindowsOfOtherKinds(t *testing.T) {
	taking := 0
	kinds(func(k api.Kind) {
		s := taken(t, []string{"max(p(-3,-2),hi)", "max(p(-16),hi)"}[k.Form], k)
		kinds(func(other api.Kind) {
			for seed := range uint(4) {
				_, fit := s.runs(t, windowOf(other, seed))
				if fit && other.Form != k.Form || !fit && other == k {
					t.Errorf("%v, a window of %v: it fits: %v", k, other, fit)
				}
				if fit {
					taking++
				}
			}
		})
	})
	if taking < 4*32*8 {
		t.Errorf("%d windows fit", taking)
	}
}

// placed writes a place of a form.
func placed(p api.Place) string {
	list := []string{fmt.Sprint(p.X), fmt.Sprint(p.Y)}[:p.Coords]
	if p.Back > 0 {
		return fmt.Sprintf("q(%d,%s)", p.Back, strings.Join(list, ","))
	}
	return fmt.Sprintf("p(%s)", strings.Join(list, ","))
}

// Each input and each place, on windows at the kinds' ends.
func TestWindowsAtTheEnds(t *testing.T) {
	kinds(func(k api.Kind) {
		low, high, border := samples(k)
		var list []subject
		for _, text := range []string{"x", "y", "c", "lo", "hi", "mid"} {
			list = append(list, taken(t, text, k))
		}
		for _, p := range placesOf(k.Form) {
			list = append(list, taken(t, placed(p), k))
		}
		on := windowsOf(k, 6)
		lows, highs := windowOf(k, 0), windowOf(k, 1)
		for n := range lows.P {
			one, other := copied(lows), copied(highs)
			one.P[n], other.P[n] = high, low
			on = append(on, one, other)
		}
		for _, w := range on {
			want := append([]int{w.X, w.Y, w.C, low, high, border}, w.P...)
			for i, s := range list {
				s.answers(t, w, want[i])
			}
		}
	})
}

// Programs are run any number of times, in turns; runs, refused texts and refused bytes aren't seen.
func TestProgramsInTurns(t *testing.T) {
	list := mixed(t)
	for _, text := range wasteful {
		list = append(list, brings(t, coded(text)))
	}
	next := draw(37)
	for range 4000 {
		s := list[next(len(list))]
		switch next(8) {
		case 0:
			s.tells(t)
		case 1:
			s.unfit(t, windowOf(api.Kind{Form: 1 - s.c.Kind.Form, Depth: 8}, uint(next(9))))
		case 2:
			refused(t, "1/0", s.c.Kind, api.ErrDivZero)
			refusedBytes(t, octets("1 0 8"), s.c.Kind, api.ErrShort)
		default:
			s.runs(t, windowOf(s.c.Kind, uint(next(9))))
		}
	}
}

// 22.5: programs

// tuples goes over all choices of so many out of a list.
func tuples(list []int, count int, do func(chosen []int)) {
	if count == 0 {
		do(nil)
		return
	}
	tuples(list, count-1, func(chosen []int) {
		for _, x := range list {
			do(append(slices.Clip(chosen), x))
		}
	})
}

// The median-edge predictor is what it is said to be, at every depth, in six instructions.
func TestTheMedian(t *testing.T) {
	for depth := 1; depth <= 16; depth++ {
		k := api.Kind{Form: api.Image, Depth: depth}
		s := taken(t, median, k)
		s.is(t, median, 8, "place 16; place 10; add 0 1; place 9; sub 2 3; med 0 1 4")
		l, e := loaded(t, s.p.Bytes(), k)
		if e != api.OK || l.p.Cost() != 6 {
			t.Errorf("the depth %d, loaded: %d, the cost %d", depth, e, l.p.Cost())
		}
		top := 1<<depth - 1
		tuples([]int{0, min(1, top), top / 3, top / 2, top/2 + 1, top - 1, top}, 3, func(three []int) {
			left, above, corner := three[0], three[1], three[2]
			want := left + above - corner
			switch {
			case corner >= max(left, above):
				want = min(left, above)
			case corner <= min(left, above):
				want = max(left, above)
			}
			w := windowOf(k, uint(left+above))
			w.P[16], w.P[10], w.P[9] = left, above, corner
			s.answers(t, w, want)
			l.answers(t, w, want)
		})
		for _, w := range windowsOf(k, 20) {
			s.runs(t, w)
		}
	}
}

// marks are the operators as a text writes them, of the parts a, b and c.
var marks = []string{
	"-a", "abs(a)", "sgn(a)", "a+b", "a-b", "a*b", "a/b", "a%b", "a/max(b,1)", "a%max(b,3)", "a<<b", "a>>b", "a<<(b&7)", "a>>(b&31)", "a&b", "a|b", "a^b",
	"a<b", "a<=b", "a>b", "a>=b", "a==b", "a!=b", "min(a,b)", "max(a,b)", "clamp(a,b,c)", "med(a,b,c)", "a?b:c", "a/3", "a%10", "a*16", "a&255",
}

func letter(b byte) bool { return 'a' <= b && b <= 'z' }

// written answers an expression of at most so many levels as a text, in which so many names may be used.
func written(next func(int) int, form, deep, names int) string {
	if deep == 0 || next(6) == 0 {
		switch next(6) {
		case 0:
			return []string{"x", "y", "c", "lo", "hi", "mid"}[next(6)]
		case 1, 2:
			back, x, y := next(4), -1+next(2), -1
			return [][]string{{fmt.Sprintf("p(%d,%d)", x, y), fmt.Sprintf("q(%d,%d,%d)", back, x, y)}, {fmt.Sprintf("p(%d)", x-1), fmt.Sprintf("q(%d,%d)", back, x)}}[form][min(back, 1)]
		case 3:
			if names > 0 {
				return fmt.Sprintf("n%d", next(names))
			}
		}
		return fmt.Sprint([]int{0, 1, 2, 3, 31, 32, 255, 65535, most}[next(9)])
	}
	mark := marks[next(len(marks))]
	var text strings.Builder
	for i, b := range []byte(mark) {
		// A part is a letter that has none beside it.
		lone := (i == 0 || !letter(mark[i-1])) && (i == len(mark)-1 || !letter(mark[i+1]))
		if b >= 'a' && b <= 'c' && lone {
			text.WriteString("(" + written(next, form, deep-1, names) + ")")
		} else {
			text.WriteByte(b)
		}
	}
	return text.String()
}

// writtenWith answers a program with so many bound names as a text.
func writtenWith(next func(int) int, form, deep, names int) string {
	text := ""
	for i := range names {
		text += fmt.Sprintf("let n%d=%s;", i, written(next, form, max(deep-2, 0), i))
	}
	return text + written(next, form, deep, names)
}

// Texts of the grammar: whatever they are, there is one of the five names, or a program, which runs alike in all ways, compiled and loaded.
func TestTextsAtRandom(t *testing.T) {
	next := draw(17)
	got := map[api.Errno]int{}
	for range 8000 {
		k := api.Kind{Form: next(2), Depth: 1 + next(16)}
		form := k.Form
		if next(12) == 0 {
			form = 1 - form
		}
		s, e := compiled(t, writtenWith(next, form, 1+next(7), next(4)), k)
		if got[e]++; e != api.OK {
			continue
		}
		l, _ := loaded(t, s.p.Bytes(), k)
		for _, w := range windowsOf(k, 5) {
			value, _ := s.runs(t, w)
			l.answers(t, w, value)
		}
	}
	for e, least := range map[api.Errno]int{api.OK: 2500, api.ErrSyntax: 100, api.ErrAhead: 100, api.ErrDivZero: 300, api.ErrOverflow: 800} {
		if got[e] < least {
			t.Errorf("the answer %d came %d times", e, got[e])
		}
	}
}

// pieces are tokens, and what is near them.
var pieces = strings.Fields("1 2 0 7 31 255 2147483647 2147483648 01 x y c lo hi mid a n1 let let abs sgn min max clamp med p q p(-1,0) p(0,-1) p(-1) q(1,0,0) ( ) ( ) , , ; = ? : + - * / % << >> & | ^ < <= > >= == != ! # . A é")

// spoiled answers a text with one thing changed: a piece put in, taken out or exchanged, or a byte.
func spoiled(next func(int) int, text string) string {
	at := next(len(text) + 1)
	to := min(len(text), at+next(4))
	switch next(4) {
	case 0:
		return text[:at] + pieces[next(len(pieces))] + text[at:]
	case 1:
		return text[:at] + text[to:]
	case 2:
		return text[:at] + string([]byte{byte(next(256))}) + text[to:]
	}
	return text[:at] + pieces[next(len(pieces))] + text[to:]
}

func TestSpoiledTexts(t *testing.T) {
	next := draw(19)
	got := map[api.Errno]int{}
	for i := range 20000 {
		k := []api.Kind{image, sound, {Form: next(2), Depth: 1 + next(16)}}[next(3)]
		text := programs[next(len(programs))]
		if i%3 == 0 {
			text = harmfulAtRandom(next)
		}
		for range 1 + next(2) {
			text = spoiled(next, text)
		}
		s, e := compiled(t, text, k)
		if got[e]++; e == api.OK {
			s.runs(t, windowOf(k, uint(next(6))))
		}
	}
	for e, least := range map[api.Errno]int{api.OK: 1000, api.ErrSyntax: 6000, api.ErrAhead: 500, api.ErrDivZero: 100, api.ErrOverflow: 100, api.ErrCost: 100} {
		if got[e] < least {
			t.Errorf("the answer %d came %d times", e, got[e])
		}
	}
}

// harmfulAtRandom answers one of the harmful texts that aren't too long.
func harmfulAtRandom(next func(int) int) string {
	for {
		list := harmful[[]api.Errno{api.ErrSyntax, api.ErrAhead, api.ErrDivZero, api.ErrOverflow, api.ErrCost}[next(5)]]
		if text := list[next(len(list))]; len(text) <= api.MaxText {
			return text
		}
	}
}

// All rows of up to four of some pieces.
func TestShortTexts(t *testing.T) {
	got := map[api.Errno]int{}
	w := windowOf(image, 4)
	for count := range 5 {
		rows([]string{"1", "x", "-", "(", ")", "*", "/", "<", "p(-1,0)", "p(0,0)", "2147483647", "let a=1;", "a"}, count, func(text string) {
			s, e := compiled(t, text, image)
			if got[e]++; e == api.OK {
				s.runs(t, w)
			}
		})
	}
	for e, least := range map[api.Errno]int{api.OK: 200, api.ErrSyntax: 10000, api.ErrAhead: 50, api.ErrDivZero: 20, api.ErrOverflow: 5} {
		if got[e] < least {
			t.Errorf("the answer %d came %d times", e, got[e])
		}
	}
}

// rows goes over all rows of so many pieces, blanks between them.
func rows(list []string, count int, do func(text string)) {
	if count == 0 {
		do("")
		return
	}
	rows(list, count-1, func(text string) {
		for _, piece := range list {
			do(text + " " + piece)
		}
	})
}

// Any bytes as a text.
func TestWildTexts(t *testing.T) {
	next := draw(23)
	for range 20000 {
		b := make([]byte, next(12))
		for i := range b {
			b[i] = byte(next(256))
			if next(3) > 0 {
				b[i] = "0123456789 ()-+*/%<>=!&|^?:;,#pqxycleta\n"[next(40)]
			}
		}
		compiled(t, string(b), api.Kind{Form: next(3), Depth: next(18)})
	}
}

// On every window of three places and a plane, of the least depths.
func TestAllWindows(t *testing.T) {
	next := draw(3)
	at := [][]int{{16, 10, 9}, {15, 14, 13}}
	for _, k := range []api.Kind{{Form: api.Image, Depth: 1}, {Form: api.Sound, Depth: 1}, {Form: api.Image, Depth: 2}, {Form: api.Sound, Depth: 2}} {
		low, size := kind.Low(k), kind.High(k)-kind.Low(k)+1
		for took := 0; took < 60; {
			s, e := compiled(t, writtenWith(next, k.Form, 2+next(4), next(3)), k)
			if e != api.OK {
				continue
			}
			took++
			w := windowOf(k, uint(next(20)))
			for i := range size * size * size * 4 {
				w.P[at[k.Form][0]], w.P[at[k.Form][1]], w.P[at[k.Form][2]], w.C = low+i%size, low+i/size%size, low+i/size/size%size, i/size/size/size
				s.runs(t, w)
			}
		}
	}
}

// 22.5: register code from anywhere

// bounds answers the constants that are tried of an operator: pairs of K and S, the least and the greatest among them.
func bounds(name string) [][2]int {
	var ks []int
	ss := []int{0}
	switch name {
	case "shlk", "shrk":
		ks = []int{0, 1, 2, 15, 16, 30, 31}
	case "andk":
		ks = []int{0, 1, 2, 255, 1 << 30, most - 1, most}
	case "mulk":
		ks = []int{least, least + 1, -65536, -2, -1, 0, 1, 2, 3, 65536, most - 1, most}
	case "muls":
		ks = []int{1, 2, 3, 171, 1 << 20, 1 << 30, most, 1 << 31, 1<<31 + 1, 1431655766, 1 << 32, 1 << 40, 1 << 61, 1<<62 - 1, 1 << 62}
		ss = []int{0, 1, 9, 30, 31, 32, 33, 61, 62}
	default:
		ks = []int{0}
	}
	var list [][2]int
	for _, k := range ks {
		for _, s := range ss {
			list = append(list, [2]int{k, s})
		}
	}
	return list
}

// sketch answers a code of a kind that may be; places are below a number. Of a hundred instructions that would be refused so many are kept.
func sketch(next func(int) int, k api.Kind, count, places, kept int) api.Code {
	c := api.Code{Kind: k}
	for i := 0; i < count && code.Cost(c) < 194; i++ {
		c.Insts = append(c.Insts, drawn(next, c.Insts, places))
		if _, e := verify.Verify(c); e != api.OK && next(100) >= kept {
			c.Insts[i] = num(next(6) - 1)
		}
	}
	c.Out = next(len(c.Insts))
	return c
}

// drawn answers an instruction behind others.
func drawn(next func(int) int, list []api.Inst, places int) api.Inst {
	i := len(list)
	name := all[next(len(all))]
	if next(8) == 0 {
		name = []string{"div", "mod"}[next(2)]
	}
	if i == 0 || next(4) == 0 {
		name = []string{"num", "in", "place", "place"}[next(4)]
	}
	n := api.Inst{Op: slices.Index(names, name)}
	for _, r := range []*int{&n.A, &n.B, &n.C}[:readsOf(name)] {
		if *r = next(max(i, 1)); next(2) == 0 {
			*r = i - 1 - next(min(i, 4))
		}
	}
	if name == "div" || name == "mod" {
		n.B = numbered(next, list, n.B)
	}
	switch name {
	case "num":
		n.K = []int{0, 1, -1, 2, 3, 31, 1 << next(31), -1 << next(32), next(1 << 16), next(100) - 50}[next(10)]
	case "in":
		n.K = next(6)
	case "place":
		n.K = next(places)
	default:
		list := bounds(name)
		n.K, n.S = list[next(len(list))][0], list[next(len(list))][1]
	}
	return n
}

// numbered answers the register of a number among those ahead, or the one that it is given.
func numbered(next func(int) int, list []api.Inst, r int) int {
	for range 6 {
		if i := next(len(list)); list[i].Op == api.OpNum {
			return i
		}
	}
	return r
}

// lowered answers the register code of a program's text, no pass done.
func lowered(t *testing.T, text string, k api.Kind) api.Code {
	t.Helper()
	tree, _ := parse.Parse(text)
	c, e := lower.Lower(k, tree)
	if e != api.OK {
		t.Fatalf("Lower of %q for %v: %d", text, k, e)
	}
	return c
}

// Codes that no program gives, harmless and not, come as bytes.
func TestCodesAtRandom(t *testing.T) {
	next := draw(81)
	got := map[api.Errno]int{}
	met := map[string]int{}
	for i := range 8000 {
		k := api.Kind{Form: next(2), Depth: 1 + next(16)}
		limit := kind.Count(k)
		if next(10) == 0 {
			limit = 60
		}
		count, kept := 1+next(18), 10
		if i%80 == 0 {
			count, kept = 100+next(101), 0
		}
		c := sketch(next, k, count, limit, kept)
		b, e := pack.Encode(c)
		if e != api.OK {
			t.Fatalf("Encode(%s): %d", shown(c), e)
		}
		s, e := loaded(t, b, k)
		if got[e]++; e != api.OK {
			continue
		}
		for _, n := range s.c.Insts {
			met[names[n.Op]]++
		}
		for _, w := range windowsOf(k, 4) {
			s.runs(t, w)
		}
	}
	for e, least := range map[api.Errno]int{api.OK: 4000, api.ErrAhead: 30, api.ErrDivZero: 60, api.ErrOverflow: 150} {
		if got[e] < least {
			t.Errorf("the answer %d came %d times", e, got[e])
		}
	}
	for _, name := range all {
		if met[name] < 300 {
			t.Errorf("%s is run %d times", name, met[name])
		}
	}
}

// Bytes of programs with some of them changed: what is taken is harmless, and is these bytes.
func TestSpoiledBytes(t *testing.T) {
	next := draw(29)
	var list []subject
	for _, s := range mixed(t) {
		list = append(list, s)
	}
	for range 60 {
		k := api.Kind{Form: next(2), Depth: 1 + next(16)}
		list = append(list, brings(t, sketch(next, k, 1+next(18), kind.Count(k), 0)))
	}
	got := map[api.Errno]int{}
	for range 40000 {
		s := list[next(len(list))]
		b := s.p.Bytes()
		for range 1 + next(2) {
			at := next(len(b))
			switch next(6) {
			case 0:
				b = slices.Insert(b, at, byte(next(40)))
			case 1:
				if len(b) > 1 {
					b = slices.Delete(b, at, at+1)
				}
			case 2:
				b[at] ^= 1 << next(8)
			default:
				b[at] = byte(next(40))
			}
		}
		l, e := loaded(t, b, s.c.Kind)
		if got[e]++; e == api.OK {
			l.runs(t, windowOf(s.c.Kind, uint(next(6))))
		}
	}
	for e, least := range map[api.Errno]int{api.OK: 3000, api.ErrShort: 1000, api.ErrForm: 500, api.ErrTail: 500, api.ErrCode: 3000, api.ErrProgram: 200, api.ErrAhead: 5, api.ErrDivZero: 20, api.ErrOverflow: 50} {
		if got[e] < least {
			t.Errorf("the answer %d came %d times", e, got[e])
		}
	}
}

// orderAtRandom answers an order of passes that may be.
func orderAtRandom(next func(int) int) []int {
	var order []int
	for range next(17) {
		order = append(order, 1+next(4))
	}
	return order
}

// Behind any passes a program's code comes to what it came to, and is no dearer than was declared.
func TestBehindPasses(t *testing.T) {
	next := draw(83)
	took := 0
	for i := range 2500 {
		k := api.Kind{Form: next(2), Depth: 1 + next(16)}
		text := writtenWith(next, k.Form, 1+next(4), next(4))
		if i < len(programs) {
			text = programs[i]
		}
		s, e := compiled(t, text, k)
		if e != api.OK {
			continue
		}
		took++
		on := windowsOf(k, 4)
		for _, order := range [][]int{{}, {passes.Fold}, {passes.Share}, {passes.Reduce}, {passes.Prune}, orderAtRandom(next), orderAtRandom(next)} {
			for _, from := range []api.Code{s.p.Code(), lowered(t, text, k)} {
				c, e := passes.Run(from, order...)
				if e != api.OK {
					t.Fatalf("Run(%s, %v): %d", shown(from), order, e)
				}
				l := brings(t, c)
				if l.p.Cost() > s.p.Cost() {
					t.Errorf("%q for %v costs %d behind %v, not at most %d", text, k, l.p.Cost(), order, s.p.Cost())
				}
				for _, w := range on {
					want, _ := s.runs(t, w)
					l.answers(t, w, want)
				}
			}
		}
	}
	if took < 800 {
		t.Errorf("%d programs are taken", took)
	}
}

// P1

// What is written into what Code and Bytes have handed out, spare room included, isn't seen by later calls and runs.
func TestHandedOutIsNew(t *testing.T) {
	for _, s := range mixed(t) {
		w := windowOf(s.c.Kind, 4)
		want, _ := s.runs(t, w)
		for range 2 {
			c, d := s.p.Code(), s.p.Code()
			room := c.Insts[:cap(c.Insts)]
			for i := range room {
				room[i] = api.Inst{Op: api.OpDiv, A: -1, K: 99}
			}
			b, a := s.p.Bytes(), s.p.Bytes()
			full := b[:cap(b)]
			for i := range full {
				full[i] = 0xa5
			}
			if !code.Same(d, s.c) {
				t.Errorf("%s: two answers of Code share memory", shown(s.c))
			}
			if encoded, _ := pack.Encode(s.c); !bytes.Equal(a, encoded) {
				t.Errorf("%s: two answers of Bytes share memory", shown(s.c))
			}
			s.tells(t)
			s.answers(t, w, want)
		}
	}
}

// What is written over bytes behind Load isn't seen: neither what may be nor what may not.
func TestBytesAreNotKept(t *testing.T) {
	for _, s := range mixed(t) {
		w := windowOf(s.c.Kind, 4)
		want, _ := s.runs(t, w)
		for _, over := range [][]byte{{0}, {0xff}, octets("1 0 8 1, 1 14, 0"), octets("1 0 8 1, 3 44, 0")} {
			b := slices.Grow(s.p.Bytes(), 20)
			run, e := compile.Load(b, s.c.Kind)
			unrun, f := compile.Load(b, s.c.Kind)
			if e != api.OK || f != api.OK {
				t.Fatalf("Load(%s, %v): %d, %d", hexed(b), s.c.Kind, e, f)
			}
			l := subject{p: run, c: s.c, cost: code.Cost(s.c)}
			l.answers(t, w, want)
			room := b[:cap(b)]
			for i := range room {
				room[i] = over[i%len(over)]
			}
			for _, l.p = range []*compile.Program{unrun, run, unrun} {
				l.tells(t)
				l.answers(t, w, want)
			}
		}
	}
}

// What is written into a window behind a run isn't seen by later runs, on this window or on another one.
func TestWindowsAreNotKept(t *testing.T) {
	seen := 0
	for _, s := range mixed(t) {
		k := s.c.Kind
		for seed := range uint(5) {
			other := windowOf(k, seed+20)
			w := copied(windowOf(k, seed))
			before, _ := s.runs(t, w)
			low, high, _ := samples(k)
			for i := range w.P {
				w.P[i] = low + high - w.P[i]
			}
			if after, _ := s.runs(t, w); after != before {
				seen++
			}
			for i := range w.P {
				w.P[i] = low - 1
			}
			s.runs(t, other)
			s.unfit(t, w)
			s.answers(t, windowOf(k, seed), before)
		}
	}
	if seen < 100 {
		t.Errorf("%d windows come to something else when they are written over", seen)
	}
}

func TestEmptyListsAreNone(t *testing.T) {
	for _, b := range [][]byte{nil, {}, make([]byte, 0, 10)} {
		refusedBytes(t, b, image, api.ErrShort)
	}
	for _, p := range [][]int{nil, {}, windowOf(image, 3).P[:0]} {
		taken(t, "1", image).unfit(t, api.Window{P: p})
		runsNothing(t, nil, api.Window{P: p})
	}
}

// Bytes and windows of any numbers: whatever they are, there is an answer.
func TestWild(t *testing.T) {
	next := draw(7)
	list := mixed(t)
	number := func() int {
		switch next(12) {
		case 0:
			return next(8) - 1
		case 1:
			return append([]int{least, most, 1 << 31, 1 << 62, 255, 256}, far...)[next(6+len(far))]
		}
		return 0
	}
	took := 0
	for range 20000 {
		k := api.Kind{Form: next(3), Depth: next(18)}
		count := 1 + next(4)
		b := []byte{1, byte(next(2)), byte(1 + next(17)), byte(count)}
		for range count + 1 - next(4)/3 {
			inst := [][]byte{{1, byte(next(256))}, {2, byte(next(7))}, {3, byte(next(46))}, {byte(next(36)), byte(next(3))}, {byte(next(36)), byte(next(3)), byte(next(3))}, {0}}
			b = append(b, inst[next(len(inst))]...)
		}
		if next(8) == 0 {
			b = b[:next(len(b)+1)]
		}
		w := api.Window{X: number(), Y: number(), C: number()}
		for range []int{0, 1, 31, 44, next(60)}[next(5)] {
			w.P = append(w.P, 0)
		}
		for range len(w.P) / 20 {
			w.P[next(len(w.P))] = number()
		}
		if len(b) > 2 && next(2) == 0 {
			k = api.Kind{Form: int(b[1]), Depth: int(b[2])}
		}
		if s, e := loaded(t, b, k); e == api.OK {
			s.runs(t, w)
			took++
		}
		list[next(len(list))].runs(t, w)
	}
	if took < 50 {
		t.Errorf("%d programs are loaded", took)
	}
}

// The tests' own windows, operators and kinds are those of the layers below.
func TestTheTestsModel(t *testing.T) {
	kinds(func(k api.Kind) {
		low, high, border := samples(k)
		if !mayBe(k) || low != kind.Low(k) || high != kind.High(k) || border != kind.Border(k) || places(k.Form) != kind.Count(k) {
			t.Errorf("%v: %d, %d, %d, %d places", k, low, high, border, places(k.Form))
		}
		for n, p := range kind.All(k) {
			if placesOf(k.Form)[n] != p {
				t.Errorf("%v: the place %d is %v", k, n, p)
			}
		}
		for _, w := range windowsOf(k, 50) {
			if !fits(k, w) || kind.Fits(k, w) != api.OK {
				t.Errorf("%v: %v doesn't fit", k, w)
			}
		}
		unfitting(k, func(w api.Window) {
			if fits(k, w) || kind.Fits(k, w) != api.ErrInput {
				t.Errorf("%v: %v fits", k, w)
			}
		})
	})
	for _, k := range strange() {
		if mayBe(k) || kind.Check(k) != api.ErrInput {
			t.Errorf("%v may be", k)
		}
	}
	for op, name := range names {
		want := -1
		if slices.Contains(all, name) {
			want = readsOf(name)
		}
		if arith.Arity(op) != want {
			t.Errorf("%s reads %d registers", name, arith.Arity(op))
		}
	}
	if len(all) != 32 || names[api.OpMulS] != "muls" || names[api.OpAdd] != "add" || names[api.OpClamp] != "clamp" || names[api.OpPlace] != "place" {
		t.Errorf("the operators are %v", names)
	}
}
