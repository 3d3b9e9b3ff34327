package check_test

import (
	"fmt"
	"maps"
	"math"
	"slices"
	"strings"
	"testing"

	"damask/api"
	"damask/check"
	"damask/kind"
)

var (
	image = api.Kind{Form: api.Image, Depth: 8}
	sound = api.Kind{Form: api.Sound, Depth: 16}
)

// operators are the operators that have parts, in one order.
var operators = slices.Sorted(maps.Keys(parts))

const median = "med(p(-1,0),p(0,-1),p(-1,0)+p(0,-1)-p(-1,-1))"

// programs are ordinary ones, of images, of sounds and of both.
var programs = []string{
	"1", "x", "y", "c", "lo", "hi", "mid", "p(-1,0)", "q(1,-1)", "q(3,1,1)", "p(-16)", "p(-1,0)+1", "(p(-1,0)+p(0,-1))/2", median,
	"let a=p(-1,0);let b=p(0,-1);let c0=p(-1,-1);c0>=max(a,b)?min(a,b):c0<=min(a,b)?max(a,b):a+b-c0",
	"1/(abs(p(-1,0)-p(0,-1))+1)", "(x&255)*(x&255)", "x*x", "x*y", "2*p(-1)-p(-2)", "clamp(2*p(-1)-p(-2),lo,hi)", "let a=hi;a*a", "x?1:y?2:3",
	"c?q(1,0,0)+p(-1,0)-q(1,-1,0):mid", "let d=abs(p(-1,0)-p(0,-1));d<2?0:d<8?1:d<32?2:3", "-x", "--1", "sgn(-x)<<3>>1", "1<<2<3|4&5^6",
	"let a=1;let b=a;let c2=a+b;(c2%3==0)!=(a>b)", "min(x,max(y,-c))", "let unused=q(3,-4);2147483647", "let e=p(-1)-p(-2);e/3+e%5*(e>>1)-(e<<2)&7|-e^c",
	"p(-1)*p(-2)", "p(-1,0)*p(0,-1)", "p(-1,0)*32768", "p(-1)<<15", "p(-1)<<16", "p(-1,0)<<15", "1/p(-1,0)", "1/p(-1)", "x/(p(-1)&7)", "x%((p(-1)&7)+1)", "x>>(p(-1,0)&15)", "1<<(p(-1)&31)",
	"1/(hi-1)", "1/(lo+2)", "1<<(hi>>12)", "hi*hi", "mid*mid*4", "1/mid",
}

// kinds goes over all kinds that may be.
func kinds(do func(k api.Kind)) {
	for form := range 2 {
		for depth := 1; depth <= 16; depth++ {
			do(api.Kind{Form: form, Depth: depth})
		}
	}
}

// filled answers an operator of one part throughout, but for one place.
func filled(op, at int, what, others expr) expr {
	list := slices.Repeat([]expr{others}, parts[op])
	list[at] = what
	return of(op, list...)
}

// The chapter's examples

func TestExamples(t *testing.T) {
	for _, c := range []struct {
		k           api.Kind
		text        string
		cost, depth int
		root        string
		e           api.Errno
	}{
		{image, median, 8, 4, "0:255", api.OK},
		{image, "let a=p(-1,0)+1;a*a", 4, 3, "1:65536", api.OK},
		{sound, "2*p(-1)-p(-2)", 5, 3, "-98303:98302", api.OK},
		{image, "p(-1,0)/3", 6, 2, "0:85", api.OK},
		{image, "p(-1,0)%10", 8, 2, "0:9", api.OK},
		{image, "1/p(-1,0)", 0, 0, "", api.ErrDivZero},
		{image, "1/(p(-1,0)+1)", 8, 3, "0:1", api.OK},
		{image, "1<<p(-1,0)", 0, 0, "", api.ErrOverflow},
		{image, "1<<(p(-1,0)&15)", 5, 3, "1:32768", api.OK},
		{sound, "p(0)", 0, 0, "", api.ErrAhead},
		{sound, "p(-1,0)", 0, 0, "", api.ErrAhead},
		{sound, "x*x", 0, 0, "", api.ErrOverflow},
		{image, "p(0,0)/0", 0, 0, "", api.ErrAhead},
		{image, strings.Repeat("-", 23) + "1", 24, 24, "-1", api.OK},
		{image, strings.Repeat("-", 24) + "1", 0, 0, "", api.ErrCost},
		{image, "0" + strings.Repeat("+1%2", 22), 199, 24, "0:22", api.OK},
		{image, "0" + strings.Repeat("+1%2", 23), 0, 0, "", api.ErrCost},
		// The whole's.
		{image, "(p(-1,0)+p(0,-1))/2", 8, 3, "0:255", api.OK},
		{image, "1/(p(-1,0)-p(0,-1))", 0, 0, "", api.ErrDivZero},
		{image, "1/(abs(p(-1,0)-p(0,-1))+1)", 11, 5, "0:1", api.OK},
		{image, "p(1,0)", 0, 0, "", api.ErrAhead},
		{image, "p(1,-1)", 1, 1, "0:255", api.OK},
		{api.Kind{Form: api.Sound, Depth: 8}, "p(1,-1)", 0, 0, "", api.ErrAhead},
		{sound, "(x&255)*(x&255)", 7, 3, "0:65025", api.OK},
	} {
		x := treeOf(t, c.text)
		r := answers(t, c.k, x, c.e)
		if r.Cost != c.cost || r.Depth != c.depth {
			t.Errorf("%q: cost %d, depth %d", c.text, r.Cost, r.Depth)
		}
		if c.e == api.OK && (len(r.Spans) != len(x.Nodes) || r.Spans[x.Root] != spansIn(t, c.root)[0]) {
			t.Errorf("%q: %v", c.text, r.Spans)
		}
	}
	if r := answers(t, image, treeOf(t, median), api.OK); r.Spans[6] != (api.Span{Lo: -255, Hi: 510}) {
		t.Errorf("the sum less the corner: %v", r.Spans[6])
	}
}

// 9.1

func TestCost(t *testing.T) {
	want := map[int]int{
		math.MinInt: 1, -1 << 32: 1, -1 << 31: 1, -api.OpMod: 1, -api.OpDiv: 1, -api.OpUse: 1, -1: 1, 0: 1,
		api.OpNum: 1, api.OpIn: 1, api.OpPlace: 1, api.OpUse: 0, api.OpNeg: 1, api.OpAbs: 1, api.OpSgn: 1, api.OpAdd: 1, api.OpSub: 1, api.OpMul: 1, api.OpDiv: 4, api.OpMod: 6, api.OpShl: 1, api.OpShr: 1, api.OpAnd: 1, api.OpOr: 1, api.OpXor: 1,
		api.OpLt: 1, api.OpLe: 1, api.OpGt: 1, api.OpGe: 1, api.OpEq: 1, api.OpNe: 1, api.OpMin: 1, api.OpMax: 1, api.OpClamp: 1, api.OpMed: 1, api.OpSel: 1, api.OpShlK: 1, api.OpShrK: 1, api.OpAndK: 1, api.OpMulK: 1, api.OpMulS: 1,
		api.OpMulS + 1: 1, api.OpMulS + 2: 1, 255: 1, 1 << 31: 1, 1<<32 + api.OpDiv: 1, 1<<32 + api.OpMod: 1, 1<<32 + api.OpUse: 1, 1 << 62: 1, math.MaxInt: 1,
	}
	for op, c := range want {
		if got := check.Cost(op); got != c {
			t.Errorf("Cost(%d) = %d, not %d", op, got, c)
		}
	}
	for op := -300; op <= 300; op++ {
		if got := check.Cost(op); got != cost(op) {
			t.Errorf("Cost(%d) = %d, not %d", op, got, cost(op))
		}
	}
}

func TestDepthOfTexts(t *testing.T) {
	for text, depth := range map[string]int{
		"1": 1, "x": 1, "p(-1,0)": 1, "q(1,0,0)": 1, "-1": 2, "--1": 3, "abs(x)": 2, "sgn(-x)": 3, "1+2": 2, "-1+2": 3, "1+-2": 3, "1+2+3": 3, "1+(2+3)": 3, "(1+2)+(3+4)": 3,
		"min(1,2)": 2, "max(--1,2)": 4, "max(1,--2)": 4, "med(1,2,3)": 2, "med(-1,2,3)": 3, "med(1,-2,3)": 3, "med(1,2,-3)": 3, "med(-1,--2,---3)": 5, "med(---1,--2,-3)": 5, "med(-1,---2,--3)": 5,
		"x?1:2": 2, "-x?1:2": 3, "x?-1:2": 3, "x?1:-2": 3, "x?1:y?2:3": 3, "x?y?1:2:3": 3, "(x?1:2)?1:2": 3,
		"let a=1;a": 1, "let a=-1;a": 2, "let a=-1;-a": 3, "let a=--1;a+1": 4, "let a=--1;1+a": 4, "let a=--1;a+a": 4, "let a=--1;med(1,2,a)": 4, "let a=--1;x?a:2": 4,
		"let a=--1;let b=a;b": 3, "let a=--1;let b=a;-b": 4, "let a=-1;let b=-a;let d=-b;-d": 5, "let a=1;let b=a+a;let d=b+b;d+d": 4,
		"let a=---1;1": 4, "let a=1;let b=---a;a": 4, "let a=---1;let b=1;-b": 4, "let a=---1;let b=-----1;-a": 6, "let a=---1;let b=-1;---b": 5,
	} {
		if r := answers(t, image, treeOf(t, text), api.OK); r.Depth != depth {
			t.Errorf("the depth of %q is %d, not %d", text, r.Depth, depth)
		}
	}
}

// ones answers an expression of a depth that comes to 1.
func ones(depth int) expr {
	e := num(1)
	for range depth - 1 {
		e = of(api.OpAbs, e)
	}
	return e
}

func TestDepthOfEachOperator(t *testing.T) {
	for _, op := range operators {
		for at := range parts[op] {
			for deep := 1; deep <= 30; deep++ {
				x := alone(filled(op, at, ones(deep), num(1)))
				named := laid([]expr{ones(deep)}, filled(op, at, use(0), num(1)))
				unused := laid([]expr{num(1), filled(op, at, ones(deep), use(0))}, use(0))
				if deep >= 24 {
					answers(t, image, x, api.ErrCost)
					answers(t, image, named, api.ErrCost)
					answers(t, image, unused, api.ErrCost)
					continue
				}
				own := deep + cost(op)
				for x, c := range map[*api.Tree]int{&x: own + parts[op] - 1, &named: own + parts[op] - 1, &unused: own + 1} {
					r := answers(t, image, *x, api.OK)
					if r.Depth != deep+1 || r.Cost != c {
						t.Errorf("%s: cost %d, depth %d", shown(*x), r.Cost, r.Depth)
					}
				}
			}
		}
	}
}

// The depth may be 24, however it comes about.
func TestDepthAtItsLimit(t *testing.T) {
	for deep := 1; deep <= 26; deep++ {
		want := api.OK
		if deep > 24 {
			want = api.ErrCost
		}
		for i, x := range []api.Tree{
			alone(ones(deep)),
			laid([]expr{ones(deep)}, num(1)),
			laid([]expr{ones(deep)}, use(0)),
			laid([]expr{num(1), ones(deep), use(1), num(2)}, use(2)),
			laid([]expr{ones(deep), num(1)}, use(1)),
			laid([]expr{ones(1), wrapped(deep-1, use(0))}, use(0)),
		} {
			if r := answers(t, sound, x, want); want == api.OK && r.Depth != deep {
				t.Errorf("%d: depth %d, not %d", i, r.Depth, deep)
			}
		}
		for bound := 1; bound <= deep; bound++ {
			x := laid([]expr{ones(bound)}, wrapped(deep-bound, use(0)))
			if r := answers(t, image, x, want); want == api.OK && (r.Depth != deep || r.Cost != deep) {
				t.Errorf("a name of the depth %d: depth %d, cost %d, not %d", bound, r.Depth, r.Cost, deep)
			}
		}
	}
}

// A name costs nothing and is no deeper than what it is bound to, however many there are.
func TestManyUses(t *testing.T) {
	is := []expr{of(api.OpSub, in(api.InC), num(1))}
	for i := range 1020 {
		is = append(is, use(i))
	}
	r := answers(t, image, laid(is, use(1020)), api.OK)
	if r.Cost != 3 || r.Depth != 2 || len(r.Spans) != 1024 || r.Spans[1023] != (api.Span{Lo: -1, Hi: 2}) {
		t.Errorf("%d spans, cost %d, depth %d", len(r.Spans), r.Cost, r.Depth)
	}
	r = answers(t, image, laid(is, use(7)), api.OK)
	if r.Cost != 3 || r.Depth != 2 {
		t.Errorf("cost %d, depth %d", r.Cost, r.Depth)
	}
	answers(t, image, laid(append(is, use(0)), use(0)), api.ErrForm)
	// Each name doubles the one ahead: the tree written out would have 2^24 nodes.
	is = []expr{num(1)}
	for i := range 23 {
		is = append(is, of(api.OpAdd, use(i), use(i)))
	}
	if r := answers(t, image, laid(is, use(23)), api.OK); r.Spans[len(r.Spans)-1] != only(1<<23) || r.Depth != 24 || r.Cost != 24 {
		t.Errorf("doubled 23 times: %v, cost %d, depth %d", r.Spans, r.Cost, r.Depth)
	}
	answers(t, image, laid(append(is, of(api.OpMax, use(23), use(23))), use(24)), api.ErrCost)
}

// 9.2: the kind

// odd are numbers about those that a form and a depth may be.
var odd = []int{math.MinInt, -1 << 32, -256, -17, -16, -2, -1, 0, 1, 2, 3, 7, 8, 15, 16, 17, 18, 256, 1 << 32, 1<<32 + 1, math.MaxInt}

func TestKinds(t *testing.T) {
	trees := []api.Tree{
		treeOf(t, "1"), treeOf(t, "p(-1)"), treeOf(t, "p(-1,0)"), treeOf(t, "p(0)"), treeOf(t, "1/0"), treeOf(t, "2147483647+1"), alone(ones(25)), alone(summed(300)), treeOf(t, "let a=lo;let b=hi;let m=mid;x+y+c"),
		{}, {Root: 1}, {Nodes: []api.Node{{}}}, {Nodes: []api.Node{{Op: api.OpPlace}}}, {Nodes: []api.Node{{Op: api.OpNeg}}}, {Nodes: []api.Node{{Op: api.OpIn, K: 6}}}, {Nodes: []api.Node{{Op: api.OpNum}}, Names: []string{"a"}},
	}
	for _, form := range odd {
		for _, depth := range odd {
			k := api.Kind{Form: form, Depth: depth}
			for i, x := range trees {
				if (form == 0 || form == 1) && depth >= 1 && depth <= 16 {
					_, e := modelled(t, k, x)
					if e == api.ErrInput || (e == api.ErrForm) != (i >= 9) {
						t.Errorf("Check(%v, %s): %d", k, shown(x), e)
					}
					continue
				}
				answers(t, k, x, api.ErrInput)
			}
		}
	}
}

func TestProgramsOfEveryKind(t *testing.T) {
	taken := map[string]int{}
	kinds(func(k api.Kind) {
		for _, text := range programs {
			if _, e := modelled(t, k, treeOf(t, text)); e == api.OK {
				taken[text]++
			}
		}
	})
	for text, count := range map[string]int{
		"1": 32, "x": 32, "lo": 32, "p(-1,0)": 16, "p(-16)": 16, median: 16, "x*x": 16, "x*y": 32, "p(-1)*p(-2)": 16,
		"p(-1,0)*p(0,-1)": 15, // (2^16 - 1)^2 has 32 bits and no sign's
		"p(-1,0)*32768":   16, "p(-1)<<15": 16, "p(-1)<<16": 16, "p(-1,0)<<15": 16, "1/p(-1,0)": 0, "1/p(-1)": 0,
		"1/(hi-1)": 15 + 15, // not of an image of 1 bit, nor of a sound of 2
		"1/(lo+2)": 16 + 15, // not of a sound of 2 bits
		"1/mid":    16, "hi*hi": 15 + 16,
	} {
		if taken[text] != count {
			t.Errorf("%q is taken for %d kinds, not for %d", text, taken[text], count)
		}
	}
}

func TestTheMedianAtEveryDepth(t *testing.T) {
	for depth := 1; depth <= 16; depth++ {
		r := answers(t, api.Kind{Form: api.Image, Depth: depth}, treeOf(t, median), api.OK)
		if top := 1<<depth - 1; r.Cost != 8 || r.Depth != 4 || r.Spans[7] != (api.Span{Lo: 0, Hi: top}) || r.Spans[6] != (api.Span{Lo: -top, Hi: 2 * top}) {
			t.Errorf("for the depth %d: %v", depth, r)
		}
	}
}

// 9.2: the whole report

func TestReports(t *testing.T) {
	const (
		all    = "x+y+c+lo+hi+mid"
		calls  = "let d=c-2;clamp(abs(d),min(d,1),max(d,sgn(d)))+med(d,c,1)"
		called = "0:3 2 -2:1  -2:1 0:2  -2:1 1 -2:1  -2:1 -2:1 -1:1 -1:1  -1:1  -2:1 0:3 1 0:1  -1:2"
		ranks  = "let a=p(-1,0);let b=q(1,1,1)+1;(a<b)+(a<=b)+(a>b)+(a>=b)+(a==b)+(a!=b)"
		mixed  = "let e=p(-1)-p(-2);e/3+e%5*(e>>1)-(e<<2)&7|-e^c"
		choice = "p(-1,0)>mid?hi-p(-1,0):x?lo:c"
		other  = "p(-1)>mid?hi-q(3,-4):x?lo:y"
		line   = "2*p(-1)-p(-2)"
	)
	for _, c := range []struct {
		form, bits  int
		text        string
		cost, depth int
		spans       string
	}{
		{0, 1, median, 8, 4, "0:1 0:1 0:1 0:1 0:2 0:1 -1:2 0:1"},
		{0, 8, median, 8, 4, "0:255 0:255 0:255 0:255 0:510 0:255 -255:510 0:255"},
		{0, 16, median, 8, 4, "0:65535 0:65535 0:65535 0:65535 0:131070 0:65535 -65535:131070 0:65535"},
		{1, 1, line, 5, 3, "2 -1:0 -2:0 -1:0 -2:1"},
		{1, 8, line, 5, 3, "2 -128:127 -256:254 -128:127 -383:382"},
		{1, 16, line, 5, 3, "2 -32768:32767 -65536:65534 -32768:32767 -98303:98302"},
		{0, 1, all, 11, 6, "0:4095 0:4095 0:8190 0:3 0:8193 0 0:8193 1 1:8194 1 2:8195"},
		{0, 8, all, 11, 6, "0:4095 0:4095 0:8190 0:3 0:8193 0 0:8193 255 255:8448 128 383:8576"},
		{0, 16, all, 11, 6, "0:4095 0:4095 0:8190 0:3 0:8193 0 0:8193 65535 65535:73728 32768 98303:106496"},
		{1, 1, all, 11, 6, "0:1048575 0 0:1048575 0:3 0:1048578 -1 -1:1048577 0 -1:1048577 0 -1:1048577"},
		{1, 8, all, 11, 6, "0:1048575 0 0:1048575 0:3 0:1048578 -128 -128:1048450 127 -1:1048577 0 -1:1048577"},
		{1, 16, all, 11, 6, "0:1048575 0 0:1048575 0:3 0:1048578 -32768 -32768:1015810 32767 -1:1048577 0 -1:1048577"},
		{0, 1, calls, 13, 6, called},
		{0, 8, calls, 13, 6, called},
		{0, 16, calls, 13, 6, called},
		{1, 1, calls, 13, 6, called},
		{1, 8, calls, 13, 6, called},
		{1, 16, calls, 13, 6, called},
		{0, 1, ranks, 15, 8, "0:1  0:1 1 1:2  0:1 1:2 0:1  0:1 1:2 1  1:2  0:1 1:2 0  1:2  0:1 1:2 0:1  1:3  0:1 1:2 0:1  1:4  0:1 1:2 0:1  1:5"},
		{0, 8, ranks, 15, 8, "0:255  0:255 1 1:256  0:255 1:256 0:1  0:255 1:256 0:1  0:2  0:255 1:256 0:1  0:3  0:255 1:256 0:1  0:4  0:255 1:256 0:1  0:5  0:255 1:256 0:1  0:6"},
		{0, 16, ranks, 15, 8, "0:65535  0:65535 1 1:65536  0:65535 1:65536 0:1  0:65535 1:65536 0:1  0:2  0:65535 1:65536 0:1  0:3  0:65535 1:65536 0:1  0:4  0:65535 1:65536 0:1  0:5  0:65535 1:65536 0:1  0:6"},
		{1, 1, mixed, 28, 8, "-1:0 -1:0 -1:1  -1:1 3 0  -1:1 5 -1:1  -1:1 1 -1:0  -1:1 -1:1  -1:1 2 -4:4  -5:5  7 0:7  -1:1 -1:1 0:3 -4:3  -8:7"},
		{1, 8, mixed, 28, 8, "-128:127 -128:127 -255:255  -255:255 3 -85:85  -255:255 5 -4:4  -255:255 1 -128:127  -512:512 -597:597  -255:255 2 -1020:1020  -1617:1617  7 0:7  -255:255 -255:255 0:3 -256:255  -256:255"},
		{1, 16, mixed, 28, 8, "-32768:32767 -32768:32767 -65535:65535  -65535:65535 3 -21845:21845  -65535:65535 5 -4:4  -65535:65535 1 -32768:32767  -131072:131072 -152917:152917  -65535:65535 2 -262140:262140  -415057:415057  7 0:7  -65535:65535 -65535:65535 0:3 -65536:65535  -65536:65535"},
		{0, 1, choice, 11, 3, "0:1 1 0  1 0:1 0:1  0:4095 0 0:3 0:3  0:3"},
		{0, 8, choice, 11, 3, "0:255 128 0:1  255 0:255 0:255  0:4095 0 0:3 0:3  0:255"},
		{0, 16, choice, 11, 3, "0:65535 32768 0:1  65535 0:65535 0:65535  0:4095 0 0:3 0:3  0:65535"},
		{1, 1, other, 11, 3, "-1:0 0 0  0 -1:0 0:1  0:1048575 -1 0 -1:0  -1:0"},
		{1, 8, other, 11, 3, "-128:127 0 0:1  127 -128:127 0:255  0:1048575 -128 0 -128:0  -128:255"},
		{1, 16, other, 11, 3, "-32768:32767 0 0:1  32767 -32768:32767 0:65535  0:1048575 -32768 0 -32768:0  -32768:65535"},
		{0, 8, "let a=1/p(-1,0)+1;a", 0, 0, ""},
		{0, 8, "let a=p(-1,0);let u=a%7;let v=u*100;a", 10, 3, "0:255  0:255 7 0:6  0:6 100 0:600  0:255"},
	} {
		k := api.Kind{Form: c.form, Depth: c.bits}
		if c.spans == "" {
			answers(t, k, treeOf(t, c.text), api.ErrDivZero)
			continue
		}
		got := answers(t, k, treeOf(t, c.text), api.OK)
		if want := (api.Report{Spans: spansIn(t, c.spans), Cost: c.cost, Depth: c.depth}); !same(got, want) {
			t.Errorf("%q for %v: %v, not %v", c.text, k, got, want)
		}
	}
}

func TestLeaves(t *testing.T) {
	kinds(func(k api.Kind) {
		for i, s := range inputs(k) {
			r := answers(t, k, alone(in(i)), api.OK)
			if !same(r, api.Report{Spans: []api.Span{s}, Cost: 1, Depth: 1}) {
				t.Errorf("the input %d of %v: %v", i, k, r)
			}
		}
		for _, n := range []int{0, 1, 255, 65536, 1<<31 - 2, 1<<31 - 1} {
			r := answers(t, k, alone(num(n)), api.OK)
			if !same(r, api.Report{Spans: []api.Span{only(n)}, Cost: 1, Depth: 1}) {
				t.Errorf("the number %d: %v", n, r)
			}
		}
	})
}

// 9.2: ErrForm

func TestUnsoundTrees(t *testing.T) {
	refused := func(why string, x api.Tree) {
		t.Helper()
		for _, k := range []api.Kind{image, sound} {
			if r, e := modelled(t, k, x); e != api.ErrForm {
				t.Errorf("%s: Check(%v, %s) = %v, %d, not ErrForm", why, k, shown(x), r, e)
			}
		}
	}
	refused("nothing", api.Tree{})
	refused("empty lists", api.Tree{Nodes: []api.Node{}, Names: []string{}, Binds: []int{}})
	refused("a name without a node", api.Tree{Names: []string{"a"}, Binds: []int{0}})
	for why, spoil := range map[string]func(*api.Tree){
		"the root lower":       func(x *api.Tree) { x.Root-- },
		"the root higher":      func(x *api.Tree) { x.Root++ },
		"the root below 0":     func(x *api.Tree) { x.Root = math.MinInt },
		"the root far off":     func(x *api.Tree) { x.Root = math.MaxInt },
		"the last node gone":   func(x *api.Tree) { x.Nodes = x.Nodes[:len(x.Nodes)-1] },
		"the first node gone":  func(x *api.Tree) { x.Nodes, x.Root = x.Nodes[1:], x.Root-1 },
		"a node more":          func(x *api.Tree) { x.Nodes, x.Root = append(x.Nodes, api.Node{Op: api.OpNum}), x.Root+1 },
		"an operator of none":  func(x *api.Tree) { x.Nodes[0].Op = 0 },
		"an operator of codes": func(x *api.Tree) { x.Nodes[x.Root].Op = api.OpShlK },
		"an operator far off":  func(x *api.Tree) { x.Nodes[x.Root].Op = math.MaxInt },
		"a number below 0":     func(x *api.Tree) { x.Nodes[0].K = -1 },
		"a number too great":   func(x *api.Tree) { x.Nodes[0].K = 2147483648 },
		"a part of a number":   func(x *api.Tree) { x.Nodes[0].A = 1 },
		"a place of a number":  func(x *api.Tree) { x.Nodes[0].At.Coords = 1 },
		"an input of none":     func(x *api.Tree) { x.Nodes[0] = api.Node{Op: api.OpIn, K: 6} },
		"a name of none":       func(x *api.Tree) { x.Nodes[0] = api.Node{Op: api.OpUse} },
		"a place of none":      func(x *api.Tree) { x.Nodes[0] = api.Node{Op: api.OpPlace} },
		"a place below 0":      func(x *api.Tree) { x.Nodes[0] = api.Node{Op: api.OpPlace, At: api.Place{Back: -1, Coords: 1}} },
		"a name more":          func(x *api.Tree) { x.Names = append(x.Names, "zz") },
		"a bind more":          func(x *api.Tree) { x.Binds = append(x.Binds, x.Root) },
		"a bind below 0":       func(x *api.Tree) { x.Names, x.Binds = append(x.Names, "zz"), append(x.Binds, -1) },
	} {
		// Also of trees that would be refused for another reason.
		for _, text := range []string{"1", "1+2", "let a=1;let b=a+2;a*b", "1/0", "1+p(0,0)", "2147483647+1", "1" + strings.Repeat("+1", 200)} {
			y := copied(treeOf(t, text))
			spoil(&y)
			refused(why, y)
		}
	}
	for _, name := range []string{"", "x", "let", "p", "mid", "b", "A", "a ", "abcdefghijklmnopq", "\xff"} {
		y := copied(treeOf(t, "let a=p(0,0);let b=a/0;a*b"))
		y.Names[0] = name
		refused(name, y)
	}
	refused("a node too many", alone(wrapped(1024, num(1))))
}

// edges are numbers about those that a field may be.
func edges(x api.Tree) []int {
	list := []int{math.MinInt, -1 << 31, -1<<31 + 1, -2, -1, 0, 1, 2, 3, 5, 6, 1023, 1024, 1<<31 - 1, 1 << 31, math.MaxInt}
	return append(list, len(x.Nodes)-2, len(x.Nodes)-1, len(x.Nodes), len(x.Names)-1, len(x.Names))
}

func TestOneThingChanged(t *testing.T) {
	for i, text := range programs {
		k := []api.Kind{image, sound, {Form: api.Image, Depth: 1}}[i%3]
		x := treeOf(t, text)
		y := copied(x)
		fields := []*int{&y.Root}
		for i := range y.Binds {
			fields = append(fields, &y.Binds[i])
		}
		for i := range y.Nodes {
			n := &y.Nodes[i]
			fields = append(fields, &n.Op, &n.A, &n.B, &n.C, &n.K, &n.At.Back, &n.At.Coords, &n.At.X, &n.At.Y)
		}
		for _, field := range fields {
			was := *field
			for _, to := range append(edges(x), was-1, was+1) {
				*field = to
				modelled(t, k, y)
			}
			for to := -1; to <= api.OpMulS+1; to++ {
				*field = to
				modelled(t, k, y)
			}
			*field = was
		}
		for i, name := range y.Names {
			for _, to := range []string{"", "a", "b", "zz", "x", "let", "A", name + "_", "abcdefghijklmn_90"} {
				y.Names[i] = to
				modelled(t, k, y)
			}
			y.Names[i] = name
		}
		for i := range y.Nodes {
			z := copied(x)
			z.Nodes = slices.Delete(z.Nodes, i, i+1)
			modelled(t, k, z)
			z.Root--
			modelled(t, k, z)
		}
	}
}

// Trees of any numbers: whatever they are, there is an answer.
func TestWildTrees(t *testing.T) {
	next := draw(7)
	for range 20000 {
		var x api.Tree
		number := func() int {
			if next(3) > 0 {
				return next(8) - 1
			}
			return []int{math.MinInt, math.MaxInt, -1 << 31, 1 << 31, 1<<31 - 1, 1 << 62, 1024}[next(7)]
		}
		for range next(6) {
			x.Nodes = append(x.Nodes, api.Node{Op: next(40) - 2, A: number(), B: number(), C: number(), K: number(), At: api.Place{Back: number(), Coords: number(), X: number(), Y: number()}})
		}
		for range next(3) {
			x.Names = append(x.Names, []string{"a", "b", "x", "", "\xff"}[next(5)])
		}
		for range next(3) {
			x.Binds = append(x.Binds, number())
		}
		x.Root = number()
		modelled(t, api.Kind{Form: next(3), Depth: next(18)}, x)
	}
	answers(t, image, api.Tree{Nodes: []api.Node{{Op: api.OpNeg}}}, api.ErrForm)
	answers(t, image, api.Tree{Nodes: []api.Node{{Op: api.OpNeg, A: 1}, {Op: api.OpNeg, A: 0}}, Root: 1}, api.ErrForm)
}

// 9.2: ErrAhead

// around are trees with an expression in them, wherever it may stand.
func around(e expr) []api.Tree {
	list := []api.Tree{
		alone(e),
		laid([]expr{e}, use(0)),
		laid([]expr{e}, num(1)),
		laid([]expr{num(1), e, num(2)}, use(0)),
		laid([]expr{num(1), e, use(1)}, use(2)),
		laid([]expr{num(1)}, e),
		alone(of(api.OpAbs, of(api.OpNeg, e))),
	}
	for _, op := range []int{api.OpAdd, api.OpSel, api.OpLt, api.OpMed} {
		for at := range parts[op] {
			list = append(list, alone(filled(op, at, e, num(1))), laid([]expr{filled(op, at, e, num(1))}, num(1)))
		}
	}
	return list
}

func TestPlaces(t *testing.T) {
	const far = 1<<31 - 1
	var offsets []int
	for x := -18; x <= 5; x++ {
		offsets = append(offsets, x)
	}
	offsets = append(offsets, far, -far)
	for form, want := range map[int]int{api.Image: 44, api.Sound: 31} {
		count := 0
		for _, back := range []int{0, 1, 2, 3, 4, 5, far} {
			for _, x := range offsets {
				for _, y := range offsets {
					for coords := 1; coords <= 2; coords++ {
						p := api.Place{Back: back, Coords: coords, X: x, Y: y}
						if coords == 1 && y != 0 {
							continue
						}
						e := api.ErrAhead
						if within(form, p) {
							e = api.OK
							count++
						}
						answers(t, api.Kind{Form: form, Depth: 3}, alone(at(p)), e)
					}
				}
			}
		}
		if count != want {
			t.Errorf("the form %d has %d places, not %d", form, count, want)
		}
	}
}

func TestPlacesByOneAside(t *testing.T) {
	place := func(back, coords, x, y int) api.Place { return api.Place{Back: back, Coords: coords, X: x, Y: y} }
	for _, c := range []struct {
		k       api.Kind
		in, out []api.Place
	}{
		{
			image,
			[]api.Place{place(0, 2, -3, -2), place(0, 2, 3, -2), place(0, 2, -3, -1), place(0, 2, 3, -1), place(0, 2, -3, 0), place(0, 2, -1, 0), place(1, 2, -1, -1), place(1, 2, 1, 1), place(1, 2, 0, 0), place(3, 2, -1, 1), place(3, 2, 1, -1)},
			[]api.Place{
				place(0, 2, -4, -2), place(0, 2, 4, -2), place(0, 2, -3, -3), place(0, 2, 3, -3), place(0, 2, -4, -1), place(0, 2, 4, -1), place(0, 2, -4, 0), place(0, 2, 0, 0), place(0, 2, 1, 0), place(0, 2, -1, 1), place(0, 2, 0, 1),
				place(1, 2, -2, -1), place(1, 2, -1, -2), place(1, 2, 2, 1), place(1, 2, 1, 2), place(4, 2, 0, 0), place(4, 2, -1, 1), place(3, 2, -2, 1), place(3, 2, 1, -2),
				place(0, 1, -1, 0), place(0, 1, -3, 0), place(0, 1, 0, 0), place(1, 1, 0, 0), place(3, 1, -1, 0), place(4, 1, 0, 0),
			},
		},
		{
			sound,
			[]api.Place{place(0, 1, -16, 0), place(0, 1, -1, 0), place(0, 1, -8, 0), place(1, 1, -4, 0), place(1, 1, 0, 0), place(3, 1, -4, 0), place(3, 1, 0, 0)},
			[]api.Place{
				place(0, 1, -17, 0), place(0, 1, 0, 0), place(0, 1, 1, 0), place(1, 1, -5, 0), place(1, 1, 1, 0), place(3, 1, -5, 0), place(3, 1, 1, 0), place(4, 1, 0, 0), place(4, 1, -1, 0),
				place(0, 2, -1, 0), place(0, 2, -16, 0), place(0, 2, -1, -1), place(1, 2, 0, 0), place(3, 2, -4, 0), place(1, 2, -1, -1), place(0, 2, 0, -1),
			},
		},
	} {
		for _, p := range c.in {
			for _, x := range around(at(p)) {
				answers(t, c.k, x, api.OK)
			}
		}
		for _, p := range c.out {
			for _, x := range around(at(p)) {
				answers(t, c.k, x, api.ErrAhead)
			}
		}
	}
}

// A place that isn't the kind's is the answer ahead of every span, cost and depth, wherever it stands.
func TestPlacesComeFirst(t *testing.T) {
	zero := of(api.OpDiv, num(1), num(0))
	over := of(api.OpAdd, num(1<<31-1), num(1))
	for _, p := range []api.Place{{Coords: 2}, {Coords: 1}, {Back: 4, Coords: 2}, {Coords: 2, X: 4, Y: -1}, {Coords: 1, X: -17}} {
		for _, other := range []expr{zero, over, ones(25), summed(150), wrapped(500, num(1))} {
			for _, e := range []expr{of(api.OpAdd, other, at(p)), of(api.OpAdd, at(p), other), of(api.OpDiv, at(p), other), of(api.OpSel, other, num(1), at(p)), of(api.OpMul, of(api.OpNeg, at(p)), other)} {
				for _, x := range around(e) {
					answers(t, image, x, api.ErrAhead)
					answers(t, sound, x, api.ErrAhead)
				}
			}
			for _, x := range []api.Tree{laid([]expr{other}, at(p)), laid([]expr{at(p)}, other), laid([]expr{other, at(p)}, num(1)), laid([]expr{at(p), other}, num(1)), laid([]expr{num(1), other, at(p), num(2)}, use(0))} {
				answers(t, image, x, api.ErrAhead)
				answers(t, sound, x, api.ErrAhead)
			}
		}
	}
}

// 9.2: ErrDivZero and ErrOverflow

// bounds are programs of {Image, 8} whose spans just fit, or just don't; w is the least number of 32 bits, a is 0 to 255, and 2147483647 is the greatest.
var bounds = []struct {
	text, root string
	e          api.Errno
}{
	{"-2147483647", "-2147483647", api.OK}, {"-(w+1)", "2147483647", api.OK}, {"-w", "", api.ErrOverflow}, {"-(w+1+a)", "2147483392:2147483647", api.OK}, {"-(w+a)", "", api.ErrOverflow}, {"-(2147483392+a)", "-2147483647:-2147483392", api.OK},
	{"abs(w+1)", "2147483647", api.OK}, {"abs(w)", "", api.ErrOverflow}, {"abs(w+1+a)", "2147483392:2147483647", api.OK}, {"abs(w+a)", "", api.ErrOverflow}, {"abs(min(w+a,a)+1)", "2147483392:2147483647", api.OK}, {"abs(a?w:1)", "", api.ErrOverflow}, {"abs(a?w+1:1)", "0:2147483647", api.OK}, {"abs(2147483647-a)", "2147483392:2147483647", api.OK}, {"abs(a-128)", "0:128", api.OK}, {"abs(a-127)", "0:128", api.OK}, {"abs(-a-1)", "1:256", api.OK},
	{"sgn(w)", "-1", api.OK}, {"sgn(2147483647)", "1", api.OK}, {"sgn(a)", "0:1", api.OK}, {"sgn(-a)", "-1:0", api.OK}, {"sgn(a-1)", "-1:1", api.OK}, {"sgn(a+1)", "1", api.OK}, {"sgn(0)", "0", api.OK},
	{"2147483646+1", "2147483647", api.OK}, {"2147483647+1", "", api.ErrOverflow}, {"a+2147483392", "2147483392:2147483647", api.OK}, {"a+2147483393", "", api.ErrOverflow}, {"2147483393+a", "", api.ErrOverflow}, {"w+a", "-2147483648:-2147483393", api.OK}, {"w+(a-1)", "", api.ErrOverflow}, {"w+-1", "", api.ErrOverflow}, {"w+2147483647", "-1", api.OK}, {"w+w", "", api.ErrOverflow}, {"2147483647+2147483647", "", api.ErrOverflow},
	{"-2147483647-1", "-2147483648", api.OK}, {"-2147483647-2", "", api.ErrOverflow}, {"-2147483393-a", "-2147483648:-2147483393", api.OK}, {"-2147483394-a", "", api.ErrOverflow}, {"a-w", "", api.ErrOverflow}, {"a-(w+1)", "", api.ErrOverflow}, {"a-(w+256)", "2147483392:2147483647", api.OK}, {"a-(w+255)", "", api.ErrOverflow}, {"-1-w", "2147483647", api.OK}, {"0-w", "", api.ErrOverflow}, {"w-w", "0", api.OK},
	{"a*8421504", "0:2147483520", api.OK}, {"a*8421505", "", api.ErrOverflow}, {"8421505*a", "", api.ErrOverflow}, {"a*-8421504", "-2147483520:0", api.OK}, {"a*-8421505", "", api.ErrOverflow}, {"65536*32768", "", api.ErrOverflow}, {"65536*-32768", "-2147483648", api.OK}, {"46340*46340", "2147395600", api.OK}, {"46341*46341", "", api.ErrOverflow}, {"w*1", "-2147483648", api.OK}, {"w*-1", "", api.ErrOverflow}, {"w*w", "", api.ErrOverflow}, {"w*0", "0", api.OK}, {"(a-128)*16777216", "-2147483648:2130706432", api.OK}, {"(a-127)*16777216", "", api.ErrOverflow},
	{"w/1", "-2147483648", api.OK}, {"w/-1", "", api.ErrOverflow}, {"(w+1)/-1", "2147483647", api.OK}, {"w/(-a-1)", "", api.ErrOverflow}, {"(w+1)/(-a-1)", "8388607:2147483647", api.OK}, {"w/-2", "1073741824", api.OK}, {"(w+a)/-1", "", api.ErrOverflow},
	{"1/a", "", api.ErrDivZero}, {"1/-a", "", api.ErrDivZero}, {"1/(a-1)", "", api.ErrDivZero}, {"1/(a-255)", "", api.ErrDivZero}, {"1/(a-128)", "", api.ErrDivZero}, {"1/0", "", api.ErrDivZero}, {"0/0", "", api.ErrDivZero}, {"1/(a+1)", "0:1", api.OK}, {"1/(-a-1)", "-1:0", api.OK}, {"1/(a-256)", "-1:0", api.OK}, {"w/-sgn(a)", "", api.ErrDivZero}, {"a/a", "", api.ErrDivZero}, {"a/1", "0:255", api.OK}, {"a/-1", "-255:0", api.OK}, {"a/w", "0", api.OK}, {"(a-128)/(2+(a&1))", "-64:63", api.OK},
	{"w%1", "0", api.OK}, {"w%-1", "0", api.OK}, {"w%w", "-2147483647:0", api.OK}, {"2147483647%w", "0:2147483647", api.OK}, {"a%0", "", api.ErrDivZero}, {"1%a", "", api.ErrDivZero}, {"1%-a", "", api.ErrDivZero}, {"1%(a-1)", "", api.ErrDivZero}, {"1%(a-255)", "", api.ErrDivZero}, {"1%(a+1)", "0:1", api.OK}, {"1%(-a-1)", "0:1", api.OK}, {"a%(a+1)", "0:255", api.OK}, {"(a-128)%10", "-9:9", api.OK}, {"(2+(a&3))%100", "0:5", api.OK}, {"a%-10", "0:9", api.OK},
	{"1<<30", "1073741824", api.OK}, {"1<<31", "", api.ErrOverflow}, {"-1<<31", "-2147483648", api.OK}, {"-2<<31", "", api.ErrOverflow}, {"0<<31", "0", api.OK}, {"0<<32", "", api.ErrOverflow}, {"0<<-1", "", api.ErrOverflow}, {"0<<0", "0", api.OK}, {"a<<23", "0:2139095040", api.OK}, {"a<<24", "", api.ErrOverflow}, {"(a-128)<<24", "-2147483648:2130706432", api.OK}, {"(a-129)<<24", "", api.ErrOverflow}, {"0<<(a&31)", "0", api.OK}, {"0<<(a&32)", "", api.ErrOverflow}, {"0<<((a&31)-1)", "", api.ErrOverflow}, {"0<<((a&31)+1)", "", api.ErrOverflow}, {"-1<<(a&31)", "-2147483648:-1", api.OK}, {"1<<(a&31)", "", api.ErrOverflow}, {"(a-128)<<1+(a&3)", "-2048:2032", api.OK}, {"0<<w", "", api.ErrOverflow}, {"0<<2147483647", "", api.ErrOverflow},
	{"2147483647>>0", "2147483647", api.OK}, {"2147483647>>31", "0", api.OK}, {"w>>31", "-1", api.OK}, {"w>>32", "", api.ErrOverflow}, {"1>>-1", "", api.ErrOverflow}, {"1>>32", "", api.ErrOverflow}, {"a>>(a&31)", "0:255", api.OK}, {"a>>(a&32)", "", api.ErrOverflow}, {"a>>((a&31)-1)", "", api.ErrOverflow}, {"a>>((a&31)+1)", "", api.ErrOverflow}, {"a>>((a&15)+16)", "0", api.OK}, {"w>>(a&31)", "-2147483648:-1", api.OK}, {"0>>w", "", api.ErrOverflow}, {"(a-128)>>1", "-64:63", api.OK},
	{"w&w", "-2147483648:2147483647", api.OK}, {"w&2147483647", "0:2147483647", api.OK}, {"a&7", "0:7", api.OK}, {"(a-128)&255", "0:255", api.OK}, {"255&(a-128)", "0:255", api.OK}, {"(a-128)&(a-200)", "-256:255", api.OK}, {"-a&-1", "-256:255", api.OK},
	{"w|0", "-2147483648:2147483647", api.OK}, {"(4+(a&1))|2147483647", "2147483647", api.OK}, {"4+a%6|1+(a&1)", "4:15", api.OK}, {"a|256", "256:511", api.OK}, {"a-1|0", "-256:255", api.OK},
	{"w^2147483647", "-2147483648:2147483647", api.OK}, {"a^256", "0:511", api.OK}, {"-1^5", "-8:7", api.OK}, {"a^a", "0:255", api.OK},
	{"a<256", "1", api.OK}, {"a<255", "0:1", api.OK}, {"a<0", "0", api.OK}, {"a<=255", "1", api.OK}, {"a<=-1", "0", api.OK}, {"a<=0", "0:1", api.OK}, {"a>255", "0", api.OK}, {"a>254", "0:1", api.OK}, {"a>-1", "1", api.OK}, {"a>=0", "1", api.OK}, {"a>=1", "0:1", api.OK}, {"a>=256", "0", api.OK},
	{"a==256", "0", api.OK}, {"a==255", "0:1", api.OK}, {"a==a", "0:1", api.OK}, {"5==5", "1", api.OK}, {"w==w", "1", api.OK}, {"a!=256", "1", api.OK}, {"a!=0", "0:1", api.OK}, {"5!=5", "0", api.OK}, {"w!=2147483647", "1", api.OK},
	{"min(w,2147483647)", "-2147483648", api.OK}, {"min(a,100)", "0:100", api.OK}, {"min(a-200,a)", "-200:55", api.OK}, {"max(w,2147483647)", "2147483647", api.OK}, {"max(a,100)", "100:255", api.OK}, {"max(a-200,a)", "0:255", api.OK}, {"clamp(a,10,20)", "10:20", api.OK}, {"clamp(a,w,2147483647)", "0:255", api.OK}, {"clamp(a,20,10)", "10", api.OK}, {"med(a,w,2147483647)", "0:255", api.OK}, {"med(a,10,20)", "10:20", api.OK}, {"med(w,w,a)", "-2147483648", api.OK},
	{"a?w:2147483647", "-2147483648:2147483647", api.OK}, {"1?w:2147483647", "-2147483648", api.OK}, {"0?w:2147483647", "2147483647", api.OK}, {"a+1?1:2", "1", api.OK}, {"-1-a?1:2", "1", api.OK}, {"a-1?1:2", "1:2", api.OK},
	// Both choices are reckoned, whichever is taken.
	{"1?2:1/0", "", api.ErrDivZero}, {"0?1/0:2", "", api.ErrDivZero}, {"a==0?1:100/a", "", api.ErrDivZero}, {"0?2147483647+1:2", "", api.ErrOverflow},
}

func TestSpansAtTheirBounds(t *testing.T) {
	seen := map[int]int{}
	for _, c := range bounds {
		last := "let w=-2147483647-1;let a=p(-1,0);"
		x := treeOf(t, last+c.text)
		r := answers(t, image, x, c.e)
		if c.e == api.OK && r.Spans[x.Root] != spansIn(t, c.root)[0] {
			t.Errorf("%q: %v, not %s", c.text, r.Spans[x.Root], c.root)
		}
		seen[x.Nodes[x.Root].Op]++
		// The same bound, used and not, and as a part.
		answers(t, image, treeOf(t, last+"let b="+c.text+";1"), c.e)
		answers(t, image, treeOf(t, last+"let b="+c.text+";b"), c.e)
		answers(t, image, treeOf(t, last+"sgn("+c.text+")"), c.e)
	}
	for _, op := range operators {
		if seen[op] < 3 {
			t.Errorf("the operator %d is asked %d times", op, seen[op])
		}
	}
}

// Every operator with every kind of span for each part.
func TestOperatorsOfSpans(t *testing.T) {
	a := at(api.Place{Coords: 2, X: -1})
	least := of(api.OpSub, of(api.OpNeg, num(1<<31-1)), num(1))
	list := []expr{
		num(0), num(1), of(api.OpNeg, num(1)), num(31), num(32), num(1<<31 - 1), least, a, of(api.OpNeg, a), of(api.OpSub, a, num(1)), of(api.OpAdd, a, num(1)), of(api.OpSub, a, num(256)), in(api.InX), in(api.InMid),
		of(api.OpAnd, a, num(31)), of(api.OpAnd, a, num(32)), of(api.OpSel, a, least, num(1<<31-1)), of(api.OpSel, a, of(api.OpAdd, least, num(1)), num(0)),
	}
	for _, op := range operators {
		for i, e := range list {
			if parts[op] == 1 {
				modelled(t, image, alone(of(op, e)))
				continue
			}
			for j, f := range list {
				if parts[op] == 2 {
					modelled(t, image, alone(of(op, e, f)))
					continue
				}
				modelled(t, image, alone(of(op, e, f, list[(i*7+j*5)%len(list)])))
			}
		}
	}
}

// Of two nodes that are both refused the first one's error is the answer.
func TestTheFirstNodeThatIsRefused(t *testing.T) {
	for text, want := range map[string]api.Errno{
		"1/0+(2147483647+1)":            api.ErrDivZero,
		"(2147483647+1)+1/0":            api.ErrOverflow,
		"1/0*(1<<32)":                   api.ErrDivZero,
		"(1<<32)*(1/0)":                 api.ErrOverflow,
		"(2147483647+1)/0":              api.ErrOverflow,
		"1/(2147483647+1)":              api.ErrOverflow,
		"2147483647+2147483647/0":       api.ErrDivZero,
		"1<<1/0":                        api.ErrDivZero,
		"1/(1<<31)":                     api.ErrOverflow,
		"med(1/0,1<<31,1%0)":            api.ErrDivZero,
		"med(1,1<<31,1%0)":              api.ErrOverflow,
		"med(1<<31,1/0,1%0)":            api.ErrOverflow,
		"x?1/0:1<<31":                   api.ErrDivZero,
		"x?1<<31:1/0":                   api.ErrOverflow,
		"let a=1/0;2147483647+1":        api.ErrDivZero,
		"let a=2147483647+1;1/0":        api.ErrOverflow,
		"let a=1/0;let b=1<<31;1":       api.ErrDivZero,
		"let a=1<<31;let b=1/0;1":       api.ErrOverflow,
		"let a=1<<31;a/0":               api.ErrOverflow,
		"let a=1;let b=a/0;b<<32":       api.ErrDivZero,
		"let a=-2147483647-1;a/(0-c%2)": api.ErrDivZero, // -1 is among the divisors too
		"let a=-2147483647-1;a/-1+1/0":  api.ErrOverflow,
		"let a=-2147483647-1;-a+1/0":    api.ErrOverflow,
		"let a=-2147483647-1;1/0+-a":    api.ErrDivZero,
		"let a=-2147483647-1;abs(a)%0":  api.ErrOverflow,
		"1%0-(1>>32)":                   api.ErrDivZero,
		"(1>>32)-1%0":                   api.ErrOverflow,
		"65536*65536+1/0":               api.ErrOverflow,
		"1/0+65536*65536":               api.ErrDivZero,
		"(-2147483647-2)%0":             api.ErrOverflow,
		"let u=1/(x-y);let v=1<<x;1":    api.ErrDivZero,
		"let u=1<<x;let v=1/(x-y);1":    api.ErrOverflow,
	} {
		answers(t, image, treeOf(t, text), want)
		answers(t, sound, treeOf(t, text), want)
	}
}

// 9.2: ErrCost

// A refused span is the answer, however dear or deep what stands ahead of it or behind it is.
func TestSpansComeAheadOfTheCost(t *testing.T) {
	zero := of(api.OpDiv, num(1), num(0))
	over := of(api.OpShl, num(1), num(31))
	for _, dear := range []expr{summed(101), summed(300), ones(25), ones(300)} {
		answers(t, image, alone(dear), api.ErrCost)
		for e, want := range map[*expr]api.Errno{&zero: api.ErrDivZero, &over: api.ErrOverflow} {
			for _, x := range []api.Tree{
				alone(of(api.OpAdd, *e, dear)), alone(of(api.OpAdd, dear, *e)), alone(of(api.OpSel, num(1), dear, *e)), laid([]expr{*e}, dear), laid([]expr{dear}, *e), laid([]expr{dear, *e}, num(1)), laid([]expr{*e, dear}, num(1)), laid([]expr{dear, *e, num(1)}, use(0)), laid([]expr{num(1), *e, dear}, use(0)),
			} {
				answers(t, image, x, want)
				answers(t, sound, x, want)
			}
		}
	}
	// The last node of all.
	answers(t, image, alone(of(api.OpDiv, summed(300), num(0))), api.ErrDivZero)
	answers(t, image, alone(of(api.OpShl, ones(30), num(31))), api.ErrOverflow)
}

// ofCost answers an expression that costs just so much.
func ofCost(c int) expr {
	if c%2 == 1 {
		return summed((c + 1) / 2)
	}
	return of(api.OpNeg, summed(c/2))
}

func TestCostAtItsLimit(t *testing.T) {
	for _, c := range []int{1, 2, 3, 100, 198, 199, 200, 201, 202, 300, 600} {
		want := api.OK
		if c > 200 {
			want = api.ErrCost
		}
		list := []api.Tree{alone(ofCost(c)), laid([]expr{ofCost(c)}, use(0)), laid([]expr{ofCost(c), use(0), use(0)}, use(2))}
		for first := 1; first < c; first++ {
			list = append(list, laid([]expr{ofCost(first)}, ofCost(c-first)))
		}
		for _, x := range list {
			if r := answers(t, image, x, want); want == api.OK && r.Cost != c {
				t.Errorf("cost %d, not %d", r.Cost, c)
			}
		}
	}
}

// Each operator, as the last node of a tree of just the greatest cost, of one more and of one less.
func TestCostOfEachOperatorAtItsLimit(t *testing.T) {
	for _, op := range operators {
		e := filled(op, 0, num(1), num(1))
		own := cost(op) + parts[op]
		for rest := 198; rest <= 202; rest++ {
			x := laid([]expr{ofCost(rest - own)}, e)
			y := laid([]expr{e}, ofCost(rest-own))
			want := api.OK
			if rest > 200 {
				want = api.ErrCost
			}
			for _, x := range []api.Tree{x, y} {
				if r := answers(t, image, x, want); want == api.OK && r.Cost != rest {
					t.Errorf("the operator %d: cost %d, not %d", op, r.Cost, rest)
				}
			}
		}
	}
	lets := func(count int, what string) string {
		text := ""
		for i := range count {
			text += fmt.Sprintf("let a%d=%s;", i, what)
		}
		return text
	}
	for text, want := range map[string]int{
		lets(25, "1%1") + "a0": 200, lets(25, "1%1") + "1": 0, lets(25, "1%1") + "a0+a1": 0, lets(24, "1%1") + "a0+a1": 193, lets(24, "1%1") + "1%1": 200,
		lets(33, "1/1") + "-1": 200, lets(33, "1/1") + "--1": 0, lets(33, "1/1") + "a32": 198, lets(33, "1/1") + "--a32": 200, lets(33, "1/1") + "a0-a1-a2-a3": 0, lets(33, "1/1") + "a0-a1-a2": 200,
		lets(40, "p(0,-1)") + "a0": 40, lets(60, "lo") + "hi": 61,
	} {
		e := api.OK
		if want == 0 {
			e = api.ErrCost
		}
		if r := answers(t, image, treeOf(t, text), e); r.Cost != want {
			t.Errorf("%q: cost %d, not %d", text, r.Cost, want)
		}
	}
}

// The greatest trees: they are answered too.
func TestGreatestTrees(t *testing.T) {
	answers(t, image, alone(wrapped(1023, num(1))), api.ErrCost)
	answers(t, image, alone(ones(1024)), api.ErrCost)
	answers(t, image, alone(summed(512)), api.ErrCost)
	place := at(api.Place{Coords: 2, X: -1})
	answers(t, image, laid(slices.Repeat([]expr{place}, 1023), place), api.ErrCost)
	answers(t, image, laid(slices.Repeat([]expr{place}, 1023), at(api.Place{Coords: 2})), api.ErrAhead)
	e := place
	for range 511 {
		e = of(api.OpMax, place, e)
	}
	answers(t, image, alone(e), api.ErrCost)
	answers(t, image, laid(slices.Repeat([]expr{num(1)}, 1024), num(1)), api.ErrForm)
}

// 9.3

// A program with lo, hi or mid may be refused for a lesser depth; every other is taken.
func TestLesserDepths(t *testing.T) {
	at := func(form, depth int) api.Kind { return api.Kind{Form: form, Depth: depth} }
	answers(t, at(api.Image, 2), treeOf(t, "1/(hi-1)"), api.OK)
	answers(t, at(api.Image, 1), treeOf(t, "1/(hi-1)"), api.ErrDivZero)
	answers(t, at(api.Sound, 3), treeOf(t, "1<<(lo+4)"), api.OK)
	answers(t, at(api.Image, 16), treeOf(t, "1<<(hi>>12)"), api.OK)
	answers(t, at(api.Image, 10), treeOf(t, "2147483647-1000+(1023-hi)"), api.OK)
	answers(t, at(api.Image, 4), treeOf(t, "2147483647-1000+(1023-hi)"), api.ErrOverflow)
	answers(t, at(api.Image, 16), treeOf(t, "1/(mid-1)"), api.OK)
	answers(t, at(api.Image, 1), treeOf(t, "1/(mid-1)"), api.ErrDivZero)
	// The greatest depth for which each is taken; all lesser ones are asked along.
	for text, depth := range map[string]int{
		"p(-1,0)*p(0,-1)": 15, "p(-1,0)<<20": 11, "p(-1,0)<<23": 8, "p(-1,0)*p(0,-1)*p(-1,-1)": 10, "1/(p(-1,0)-256)": 8, "1<<p(-1,0)": 4, "-1<<p(-1,0)": 5, "1>>p(-1,0)": 5, "1/(1000-p(-1,0))": 9, "p(-1,0)%(300-p(0,-1))": 8, "p(-1,0)+2147483647-255": 0,
		"let a=p(-1,0)+2147483392;a": 8, "1/((p(-1,0)>3)-1)": 2, "(p(-1,0)|p(0,-1))<<24": 7, "(p(-1,0)^64)<<24": 7, "(p(-1,0)^128)<<23": 8, "1/(p(-1,0)/16-1)": 4,
	} {
		for d := 1; d <= 16; d++ {
			_, e := modelled(t, at(api.Image, d), treeOf(t, text))
			if (e == api.OK) != (d <= depth) {
				t.Errorf("%q for the depth %d: %d", text, d, e)
			}
		}
	}
	for text, depth := range map[string]int{
		"p(-1)*p(-2)": 16, "p(-1)*p(-2)*p(-3)": 11, "p(-1)<<24": 8, "1/(p(-1)+129)": 8, "1/(p(-1)-128)": 8, "1<<(p(-1)+8)": 4, "1<<p(-1)": 0, "abs(p(-1)*65536)": 15, "abs(p(-1)*65536+1)": 16, "-(p(-1)<<16)": 15, "p(-1)<<16": 16,
	} {
		for d := 1; d <= 16; d++ {
			_, e := modelled(t, at(api.Sound, d), treeOf(t, text))
			if (e == api.OK) != (d <= depth) {
				t.Errorf("%q for the depth %d: %d", text, d, e)
			}
		}
	}
}

// tame are operators whose spans are never refused.
var tame = []int{api.OpSgn, api.OpAnd, api.OpLt, api.OpLe, api.OpGt, api.OpGe, api.OpEq, api.OpNe, api.OpMin, api.OpMax, api.OpClamp, api.OpMed, api.OpSel}

// sketch answers an expression of some operators, of at most so many levels, in which so many names may be used.
func sketch(next func(int) int, ops []int, form, deep, names int) expr {
	if deep == 0 || next(6) == 0 {
		switch next(6) {
		case 0:
			return in(next(6))
		case 1, 2:
			k := api.Kind{Form: form, Depth: 1}
			p, _ := kind.At(k, next(kind.Count(k)))
			// Now and then it is one that may not be among the kind's.
			if next(40) == 0 {
				p.X++
			}
			return at(p)
		case 3:
			if names > 0 {
				return use(next(names))
			}
		case 4:
			return num([]int{0, 1, 31, 32, 255, 65535, 1<<31 - 1}[next(7)])
		}
		return num(1 + next(9))
	}
	e := expr{op: ops[next(len(ops))]}
	for range parts[e.op] {
		e.parts = append(e.parts, sketch(next, ops, form, deep-1, names))
	}
	// Divisors and counts that may be, most of the time.
	switch e.op {
	case api.OpDiv, api.OpMod:
		if next(4) > 0 {
			e.parts[1] = of(api.OpMax, e.parts[1], num(1+next(5)))
		}
	case api.OpShl, api.OpShr:
		if next(4) > 0 {
			e.parts[1] = of(api.OpAnd, e.parts[1], num([]int{3, 7, 31}[next(3)]))
		}
	}
	return e
}

func TestTreesAtRandom(t *testing.T) {
	next := draw(11)
	got := map[api.Errno]int{}
	for range 6000 {
		form := next(2)
		ops, deep := operators, 1+next(5)
		if next(3) == 0 {
			ops, deep = tame, 3+next(4)
		}
		var is []expr
		for i := range next(4) {
			is = append(is, sketch(next, ops, form, deep-1, i))
		}
		x := laid(is, sketch(next, ops, form, deep, len(is)))
		_, e := modelled(t, api.Kind{Form: form, Depth: 1 + next(16)}, x)
		got[e]++
	}
	for e, least := range map[api.Errno]int{api.OK: 1500, api.ErrAhead: 100, api.ErrDivZero: 100, api.ErrOverflow: 300, api.ErrCost: 50} {
		if got[e] < least {
			t.Errorf("the answer %d came %d times", e, got[e])
		}
	}
}

// P1

func TestSpansAreNewMemory(t *testing.T) {
	for _, text := range []string{"1", median, "let a=p(-1,0)+1;a*a", "let d=abs(p(-1,0)-p(0,-1));d<2?0:d<8?1:d<32?2:3"} {
		x := treeOf(t, text)
		want := answers(t, image, x, api.OK)
		kept := slices.Clone(want.Spans)
		one, _ := check.Check(image, x)
		two, _ := check.Check(image, x)
		for i := range one.Spans[:cap(one.Spans)] {
			one.Spans[:cap(one.Spans)][i] = api.Span{Lo: -9, Hi: 9}
		}
		if !slices.Equal(two.Spans, kept) || !slices.Equal(want.Spans, kept) {
			t.Errorf("%q: two reports share memory", text)
		}
		three, _ := check.Check(image, x)
		if !same(three, want) {
			t.Errorf("%q: what was written into a report is seen", text)
		}
		for i := range x.Nodes {
			x.Nodes[i] = api.Node{}
		}
		for i := range x.Binds {
			x.Names[i], x.Binds[i] = "", -1
		}
		if !slices.Equal(three.Spans, kept) {
			t.Errorf("%q: what was written into the tree is seen", text)
		}
	}
}

func TestEmptyListsAreNone(t *testing.T) {
	x := alone(of(api.OpAdd, num(1), num(2)))
	want := answers(t, image, x, api.OK)
	x.Names, x.Binds = []string{}, []int{}
	if r := answers(t, image, x, api.OK); !same(r, want) {
		t.Errorf("%v, not %v", r, want)
	}
	x.Names = nil
	answers(t, image, x, api.OK)
}

func TestOneTreeOneAnswer(t *testing.T) {
	for _, text := range programs {
		for _, k := range []api.Kind{image, sound} {
			x := treeOf(t, text)
			want, f := check.Check(k, x)
			for range 3 {
				check.Check(api.Kind{Form: 1, Depth: 1}, treeOf(t, "p(-1)"))
				check.Check(image, treeOf(t, "1/0"))
				check.Check(api.Kind{}, api.Tree{})
				if r, e := check.Check(k, x); e != f || !same(r, want) {
					t.Errorf("%q for %v: %v, %d, not %v, %d", text, k, r, e, want, f)
				}
			}
		}
	}
}
