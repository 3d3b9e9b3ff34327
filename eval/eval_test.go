package eval_test

import (
	"fmt"
	"maps"
	"math"
	"math/big"
	"slices"
	"strings"
	"testing"

	"damask/api"
	"damask/check"
	"damask/eval"
	"damask/kind"
)

var (
	image = api.Kind{Form: api.Image, Depth: 8}
	sound = api.Kind{Form: api.Sound, Depth: 16}
)

// operators are the operators that have parts, in one order.
var operators = slices.Sorted(maps.Keys(parts))

const median = "med(p(-1,0),p(0,-1),p(-1,0)+p(0,-1)-p(-1,-1))"

// programs are ordinary ones, of images, of sounds and of both.
var programs = []string{
	"1", "x", "y", "c", "lo", "hi", "mid", "p(-1,0)", "q(1,-1)", "q(3,1,1)", "p(-16)", "p(-1,0)+1", "(p(-1,0)+p(0,-1))/2", median,
	"let a=p(-1,0);let b=p(0,-1);let c0=p(-1,-1);c0>=max(a,b)?min(a,b):c0<=min(a,b)?max(a,b):a+b-c0",
	"1/(abs(p(-1,0)-p(0,-1))+1)", "(x&255)*(x&255)", "x*x", "x*y", "2*p(-1)-p(-2)", "clamp(2*p(-1)-p(-2),lo,hi)", "let a=hi;a*a", "x?1:y?2:3",
	"c?q(1,0,0)+p(-1,0)-q(1,-1,0):mid", "let d=abs(p(-1,0)-p(0,-1));d<2?0:d<8?1:d<32?2:3", "-x", "--1", "sgn(-x)<<3>>1", "1<<2<3|4&5^6",
	"let a=1;let b=a;let c2=a+b;(c2%3==0)!=(a>b)", "min(x,max(y,-c))", "let unused=q(3,-4);2147483647", "let e=p(-1)-p(-2);e/3+e%5*(e>>1)-(e<<2)&7|-e^c",
	"p(-1)*p(-2)", "p(-1,0)*p(0,-1)", "p(-1,0)*32768", "p(-1)<<15", "p(-1)<<16", "p(-1,0)<<15", "1/p(-1,0)", "1/p(-1)", "x/(p(-1)&7)", "x%((p(-1)&7)+1)", "x>>(p(-1,0)&15)", "1<<(p(-1)&31)",
	"1/(hi-1)", "1/(lo+2)", "1<<(hi>>12)", "hi*hi", "mid*mid*4", "1/mid", "p(-1)-p(-2)?p(-1)/3:p(-2)%3", "let a=p(-1)<0?-p(-1):p(-1);a==abs(p(-1))",
}

// kinds goes over all kinds that may be.
func kinds(do func(k api.Kind)) {
	for form := range 2 {
		for depth := 1; depth <= 16; depth++ {
			do(api.Kind{Form: form, Depth: depth})
		}
	}
}

// example answers the window of the chapter's examples.
func example() api.Window {
	w := api.Window{X: 5, Y: 6, C: 1, P: slices.Repeat([]int{10}, 44)}
	w.P[16], w.P[10], w.P[21] = 7, 30, 200
	return w
}

// ones answers an expression of a depth that comes to 1.
func ones(depth int) expr {
	e := num(1)
	for range depth - 1 {
		e = of(api.OpAbs, e)
	}
	return e
}

// summed answers the sum of so many ones, as flat as may be: it costs one less than twice as much.
func summed(count int) expr {
	if count == 1 {
		return num(1)
	}
	return of(api.OpAdd, summed(count-count/2), summed(count/2))
}

// The chapter's examples

func TestExamples(t *testing.T) {
	for text, want := range map[string]int{
		median: 27, "p(-1,0)-p(0,-1)": -23, "(p(-1,0)-p(0,-1))/2": -11, "(p(-1,0)-p(0,-1))>>1": -12, "(p(-1,0)-p(0,-1))%4": -3, "q(1,0,0)": 200, "x*100+y*10+c": 561, "lo+hi+mid": 383, "-p(-1,0)&15": 9,
	} {
		answers(t, image, treeOf(t, text), example(), want)
	}
	tells(t, image, treeOf(t, "let a=p(-1,0);a+1"), example(), 7, 7, 1, 8)
	for _, w := range []api.Window{example(), {}, {X: -1}, {P: make([]int, 31)}} {
		refused(t, image, treeOf(t, "p(0,0)"), w, api.ErrAhead)
	}
	refused(t, image, treeOf(t, "1"), api.Window{}, api.ErrInput)
}

// 10.1: the check's error

// faults are trees that the check refuses for {Image, 8} and {Sound, 16}, with its error.
func faults(t *testing.T) map[api.Errno][]api.Tree {
	t.Helper()
	texts := func(list ...string) []api.Tree {
		var trees []api.Tree
		for _, text := range list {
			trees = append(trees, treeOf(t, text))
		}
		return trees
	}
	dear := []api.Tree{alone(ones(25)), alone(summed(101)), laid([]expr{ones(25)}, num(1)), laid([]expr{summed(101)}, num(1)), laid([]expr{ones(24)}, of(api.OpNeg, use(0)))}
	return map[api.Errno][]api.Tree{
		api.ErrForm:     {{}, {Root: 1}, {Nodes: []api.Node{{}}}, {Nodes: []api.Node{{Op: api.OpNeg}}}, {Nodes: []api.Node{{Op: api.OpNum}}, Root: 1}, {Nodes: []api.Node{{Op: api.OpUse}}}, {Nodes: []api.Node{{Op: api.OpPlace}}}, {Nodes: []api.Node{{Op: api.OpNum}}, Names: []string{"a"}}},
		api.ErrAhead:    texts("p(0,0)", "p(0)", "q(4,0)", "q(4,0,0)", "p(4,-1)", "let a=p(0);1", "p(0,0)/0", "1/0+p(0)", "2147483647+1+p(0)", "x?1:p(-17)", "1"+strings.Repeat("+1", 200)+"+p(0)"),
		api.ErrDivZero:  texts("1/0", "1%0", "1/c", "1%(c-1)", "1/(x-y)", "let a=1/0;1", "1?1:1/0", "0?1%0:1", "1/0+(1<<31)", "c==0?1:100/c", "1"+strings.Repeat("+1", 200)+"+1/0"),
		api.ErrOverflow: texts("2147483647+1", "-2147483647-2", "65536*32768", "1<<31", "1<<32", "1>>32", "1>>-1", "x<<9+c*4", "-(-2147483647-1)", "abs(-2147483647-1)", "(-2147483647-1)/-1", "let a=1<<31;1", "1?1:1<<31", "(1<<31)+1/0", "1<<x"),
		api.ErrCost:     append(dear, texts("1"+strings.Repeat("%1", 29), strings.Repeat("-", 24)+"1")...),
	}
}

// strange are windows that don't fit {Image, 8}, nor {Sound, 16}.
func strange() []api.Window {
	list := []api.Window{{}, {P: []int{}}, {P: []int{0}}, {X: -1, P: make([]int, 44)}, {C: 4, P: make([]int, 31)}, {X: math.MinInt, Y: math.MaxInt, C: -1}}
	for _, count := range []int{30, 32, 43, 45, 100} {
		list = append(list, api.Window{P: make([]int, count)})
	}
	for _, count := range []int{31, 44} {
		for _, sample := range []int{math.MinInt, -32769, 65536, math.MaxInt} {
			w := api.Window{P: make([]int, count)}
			w.P[count-1] = sample
			list = append(list, w)
		}
	}
	return list
}

// The check's error is the answer, whether the window fits or not.
func TestErrorsOfTheCheck(t *testing.T) {
	for e, trees := range faults(t) {
		for _, x := range trees {
			for _, k := range []api.Kind{image, sound} {
				for seed := range uint(windows) {
					refused(t, k, x, windowOf(k, seed), e)
				}
				for _, w := range strange() {
					refused(t, k, x, w, e)
				}
			}
			// A window of the other form doesn't fit either.
			refused(t, image, x, windowOf(sound, 3), e)
			refused(t, sound, x, windowOf(image, 3), e)
		}
	}
}

func TestKindsThatMayNotBe(t *testing.T) {
	odd := []int{math.MinInt, -1 << 32, -17, -16, -8, -1, 0, 1, 2, 3, 8, 16, 17, 18, 256, 1 << 32, 1<<32 + 1, 1<<32 + 8, math.MaxInt}
	trees := []api.Tree{treeOf(t, "1"), treeOf(t, "p(-1)"), treeOf(t, "p(-1,0)"), treeOf(t, "x+lo+hi+mid")}
	for _, list := range faults(t) {
		trees = append(trees, list...)
	}
	count := 0
	for _, form := range odd {
		for _, depth := range odd {
			k := api.Kind{Form: form, Depth: depth}
			if mayBe(k) {
				continue
			}
			count++
			for _, x := range trees {
				for _, w := range []api.Window{windowOf(image, 0), windowOf(sound, 2), {P: make([]int, 44)}, {P: make([]int, 31)}, {}} {
					refused(t, k, x, w, api.ErrInput)
				}
			}
		}
	}
	if count != len(odd)*len(odd)-2*5 {
		t.Errorf("%d kinds that may not be", count)
	}
}

// edges are numbers about those that a field may be.
func edges(x api.Tree) []int {
	list := []int{math.MinInt, -1 << 31, -2, -1, 0, 1, 2, 3, 5, 6, 1024, 1<<31 - 1, 1 << 31, math.MaxInt}
	return append(list, len(x.Nodes)-2, len(x.Nodes)-1, len(x.Nodes), len(x.Names)-1, len(x.Names))
}

func TestOneThingChanged(t *testing.T) {
	got := map[api.Errno]int{}
	for i, text := range programs {
		k := []api.Kind{image, sound, {Form: api.Image, Depth: 1}}[i%3]
		w := windowOf(k, uint(i))
		x := treeOf(t, text)
		y := copied(x)
		fields := []*int{&y.Root}
		for i := range y.Binds {
			fields = append(fields, &y.Binds[i])
		}
		for i := range y.Nodes {
			n := &y.Nodes[i]
			fields = append(fields, &n.Op, &n.A, &n.B, &n.C, &n.K, &n.At.Back, &n.At.Coords, &n.At.X, &n.At.Y)
		}
		for _, field := range fields {
			was := *field
			for _, to := range append(edges(x), was-1, was+1, api.OpMul, api.OpSel, api.OpShlK, api.OpMulS) {
				*field = to
				_, e := modelled(t, k, y, w)
				got[e]++
			}
			*field = was
		}
	}
	for e, least := range map[api.Errno]int{api.OK: 500, api.ErrForm: 1000, api.ErrAhead: 100, api.ErrDivZero: 5, api.ErrOverflow: 5} {
		if got[e] < least {
			t.Errorf("the answer %d came %d times", e, got[e])
		}
	}
}

// Trees and windows of any numbers: whatever they are, there is an answer.
func TestWildTrees(t *testing.T) {
	next := draw(7)
	number := func() int {
		if next(3) > 0 {
			return next(8) - 1
		}
		return []int{math.MinInt, math.MaxInt, -1 << 31, 1 << 31, 1<<31 - 1, 1 << 62, 1024}[next(7)]
	}
	for range 10000 {
		x := api.Tree{Root: number()}
		for range next(6) {
			x.Nodes = append(x.Nodes, api.Node{Op: next(40) - 2, A: number(), B: number(), C: number(), K: number(), At: api.Place{Back: number(), Coords: number(), X: number(), Y: number()}})
		}
		for range next(3) {
			x.Names = append(x.Names, []string{"a", "b", "x", "", "\xff"}[next(5)])
		}
		for range next(3) {
			x.Binds = append(x.Binds, number())
		}
		w := api.Window{X: number(), Y: number(), C: number()}
		for range []int{0, 30, 31, 44, 45}[next(5)] {
			w.P = append(w.P, next(2))
		}
		modelled(t, api.Kind{Form: next(3), Depth: next(18)}, x, w)
	}
}

// 10.1: windows

// asked are programs of a form: one that looks at nothing, one that looks at the inputs, one at a place.
func asked(t *testing.T, form int) []api.Tree {
	t.Helper()
	place := []string{"p(-1,0)", "p(-1)"}[form]
	return []api.Tree{treeOf(t, "1"), treeOf(t, "x+y+c"), treeOf(t, place), treeOf(t, "let a="+place+";3")}
}

func TestWindowsByTheirCount(t *testing.T) {
	kinds(func(k api.Kind) {
		for _, x := range asked(t, k.Form) {
			for count := range 60 {
				w := api.Window{P: make([]int, count)}
				if count == len(places(k.Form)) {
					if _, e := modelled(t, k, x, w); e != api.OK {
						t.Errorf("%v: %s on a window that fits: %d", k, shown(x), e)
					}
					continue
				}
				refused(t, k, x, w, api.ErrInput)
			}
			refused(t, k, x, api.Window{}, api.ErrInput)
		}
	})
}

func TestWindowsByTheirSamples(t *testing.T) {
	kinds(func(k api.Kind) {
		low, high, _ := samples(k)
		for i, x := range asked(t, k.Form) {
			for n := range places(k.Form) {
				w := windowOf(k, uint(n))
				for _, sample := range []int{low, high} {
					w.P[n] = sample
					if _, e := modelled(t, k, x, w); e != api.OK {
						t.Errorf("%v: %s with %d at the place %d: %d", k, shown(x), sample, n, e)
					}
				}
				for _, sample := range []int{low - 1, high + 1} {
					w.P[n] = sample
					refused(t, k, x, w, api.ErrInput)
				}
				if i == 0 {
					for _, sample := range []int{math.MinInt, math.MaxInt, 1 << 32, -1 << 32} {
						w.P[n] = sample
						refused(t, k, x, w, api.ErrInput)
					}
				}
			}
		}
	})
}

func TestWindowsByTheirInputs(t *testing.T) {
	kinds(func(k api.Kind) {
		x, y, c := ends(k.Form)
		for _, tree := range asked(t, k.Form) {
			w := windowOf(k, 5)
			for _, field := range []struct {
				at   *int
				most int
			}{{&w.X, x}, {&w.Y, y}, {&w.C, c}} {
				was := *field.at
				for _, n := range []int{0, field.most / 2, field.most} {
					*field.at = n
					if _, e := modelled(t, k, tree, w); e != api.OK {
						t.Errorf("%v: %s on %v: %d", k, shown(tree), w, e)
					}
				}
				for _, n := range []int{-1, field.most + 1, math.MinInt, math.MaxInt, 1 << 32, -1 << 32} {
					*field.at = n
					refused(t, k, tree, w, api.ErrInput)
				}
				*field.at = was
			}
		}
	})
}

// 10.1: numbers, inputs, places

func TestNumbers(t *testing.T) {
	kinds(func(k api.Kind) {
		for _, n := range []int{0, 1, 2, 255, 256, 65535, 65536, 1<<31 - 2, 1<<31 - 1} {
			tells(t, k, alone(num(n)), windowOf(k, uint(n)), n)
		}
	})
}

func TestInputs(t *testing.T) {
	for _, c := range []struct {
		k             api.Kind
		low, high, at int
	}{
		{api.Kind{Form: api.Image, Depth: 1}, 0, 1, 1},
		{api.Kind{Form: api.Image, Depth: 2}, 0, 3, 2},
		{api.Kind{Form: api.Image, Depth: 8}, 0, 255, 128},
		{api.Kind{Form: api.Image, Depth: 16}, 0, 65535, 32768},
		{api.Kind{Form: api.Sound, Depth: 1}, -1, 0, 0},
		{api.Kind{Form: api.Sound, Depth: 2}, -2, 1, 0},
		{api.Kind{Form: api.Sound, Depth: 8}, -128, 127, 0},
		{api.Kind{Form: api.Sound, Depth: 16}, -32768, 32767, 0},
	} {
		x, y, plane := ends(c.k.Form)
		w := windowOf(c.k, 4)
		for _, w.X = range []int{0, 1, x / 2, x - 1, x} {
			for _, w.Y = range []int{0, y / 3, y} {
				for _, w.C = range []int{0, 1, plane} {
					want := []int{w.X, w.Y, w.C, c.low, c.high, c.at}
					for i, n := range want {
						tells(t, c.k, alone(in(i)), w, n)
					}
					all := treeOf(t, "let a=x;let b=y;let d=c;let e=lo;let f=hi;mid")
					tells(t, c.k, all, w, want...)
				}
			}
		}
	}
}

// written answers a place as a text writes it.
func written(p api.Place) string {
	var list []string
	if p.Back > 0 {
		list = append(list, fmt.Sprint(p.Back))
	}
	list = append(list, fmt.Sprint(p.X))
	if p.Coords == 2 {
		list = append(list, fmt.Sprint(p.Y))
	}
	return map[bool]string{false: "p(", true: "q("}[p.Back > 0] + strings.Join(list, ",") + ")"
}

// Each place has a number of its own in the window.
func TestPlaces(t *testing.T) {
	for form, count := range []int{44, 31} {
		for depth := 6; depth <= 16; depth++ {
			k := api.Kind{Form: form, Depth: depth}
			low, high, _ := samples(k)
			up, down := windowOf(k, 3), windowOf(k, 3)
			for n := range up.P {
				up.P[n], down.P[n] = low+n, high-n
			}
			list := places(form)
			if len(list) != count {
				t.Fatalf("%v has %d places, not %d", k, len(list), count)
			}
			var all []expr
			for n, p := range list {
				x := treeOf(t, written(p))
				tells(t, k, x, up, low+n)
				tells(t, k, x, down, high-n)
				all = append(all, at(p))
			}
			// All of them in one program.
			tells(t, k, laid(all[:count-1], all[count-1]), up, up.P...)
			tells(t, k, laid(all[:count-1], all[count-1]), down, down.P...)
		}
	}
}

func TestPlacesByTheirNumbers(t *testing.T) {
	for text, n := range map[string]int{
		"p(-3,-2)": 0, "p(3,-2)": 6, "p(-3,-1)": 7, "p(-1,-1)": 9, "p(0,-1)": 10, "p(1,-1)": 11, "p(3,-1)": 13, "p(-3,0)": 14, "p(-1,0)": 16,
		"q(1,-1,-1)": 17, "q(1,0,0)": 21, "q(1,1,1)": 25, "q(2,-1,-1)": 26, "q(2,1,1)": 34, "q(3,-1,-1)": 35, "q(3,1,1)": 43,
	} {
		w := windowOf(image, 0)
		w.P[n] = 99
		tells(t, image, treeOf(t, text), w, 99)
	}
	for text, n := range map[string]int{"p(-16)": 0, "p(-2)": 14, "p(-1)": 15, "q(1,-4)": 16, "q(1,0)": 20, "q(2,-4)": 21, "q(2,0)": 25, "q(3,-4)": 26, "q(3,0)": 30} {
		w := windowOf(sound, 0)
		w.P[n] = -99
		tells(t, sound, treeOf(t, text), w, -99)
	}
}

// At every depth, also where the places can't all be different: one is unlike all others.
func TestOnePlaceUnlikeTheOthers(t *testing.T) {
	kinds(func(k api.Kind) {
		low, high, _ := samples(k)
		list := places(k.Form)
		for n := range list {
			lone, hole := windowOf(k, 0), windowOf(k, 1)
			lone.P[n], hole.P[n] = high, low
			for m := range list {
				if m != n && (m+n)%5 != 0 {
					continue
				}
				tells(t, k, alone(at(list[m])), lone, lone.P[m])
				tells(t, k, alone(at(list[m])), hole, hole.P[m])
			}
		}
	})
}

// 10.1: operators

// reckoned are programs of every operator on numbers, and what they come to; w is the least number of 32 bits, m the greatest.
var reckoned = map[string]int{
	"-0": 0, "-7": -7, "--7": 7, "-m": -2147483647, "-(w+1)": 2147483647,
	"abs(0)": 0, "abs(7)": 7, "abs(-7)": 7, "abs(m)": 2147483647, "abs(w+1)": 2147483647,
	"sgn(0)": 0, "sgn(7)": 1, "sgn(-7)": -1, "sgn(m)": 1, "sgn(w)": -1,
	"1+2": 3, "-1+2": 1, "1+-2": -1, "-1+-2": -3, "2147483646+1": 2147483647, "w+m": -1, "m+w": -1, "w+0": -2147483648,
	"1-2": -1, "2-1": 1, "-1-2": -3, "-1--2": 1, "-m-1": -2147483648, "w-w": 0, "-1-w": 2147483647, "m-m": 0,
	"3*4": 12, "-3*4": -12, "3*-4": -12, "-3*-4": 12, "65536*-32768": -2147483648, "46340*46340": 2147395600, "w*1": -2147483648, "w*0": 0, "m*-1": -2147483647,
	"7/2": 3, "-7/2": -3, "7/-2": -3, "-7/-2": 3, "1/2": 0, "-1/2": 0, "2/7": 0, "6/3": 2, "-6/3": -2, "w/-2": 1073741824, "w/1": -2147483648, "m/-1": -2147483647, "w/m": -1, "m/w": 0, "0/-5": 0, "w/w": 1,
	"7%2": 1, "-7%2": -1, "7%-2": 1, "-7%-2": -1, "-8%4": 0, "2%7": 2, "-2%7": -2, "7%3": 1, "3%7": 3, "w%-1": 0, "w%1": 0, "w%m": -1, "m%w": 2147483647, "w%w": 0, "0%-5": 0,
	"3<<4": 48, "4<<3": 32, "-3<<4": -48, "5<<0": 5, "0<<31": 0, "-1<<31": -2147483648, "1<<30": 1073741824, "w<<0": -2147483648,
	"48>>4": 3, "4>>1": 2, "1>>4": 0, "-1>>4": -1, "-7>>1": -4, "7>>1": 3, "-8>>3": -1, "-9>>3": -2, "w>>31": -1, "w>>0": -2147483648, "m>>31": 0, "m>>30": 1,
	"12&10": 8, "-2&7": 6, "7&-2": 6, "-1&-1": -1, "-8&-3": -8, "w&-1": -2147483648, "w&m": 0, "0&-1": 0,
	"12|10": 14, "-8|3": -5, "3|-8": -5, "-8|-3": -3, "0|0": 0, "w|m": -1, "w|0": -2147483648, "0|-1": -1,
	"12^10": 6, "-1^5": -6, "5^-1": -6, "-8^-3": 5, "w^m": -1, "w^w": 0, "w^-1": 2147483647,
	"1<2": 1, "2<1": 0, "2<2": 0, "-2<1": 1, "1<-2": 0, "-2<-1": 1, "w<m": 1, "m<w": 0,
	"1<=2": 1, "2<=1": 0, "2<=2": 1, "-2<=1": 1, "1<=-2": 0, "-1<=-2": 0, "w<=m": 1, "m<=w": 0,
	"1>2": 0, "2>1": 1, "2>2": 0, "-2>1": 0, "1>-2": 1, "-1>-2": 1, "w>m": 0, "m>w": 1,
	"1>=2": 0, "2>=1": 1, "2>=2": 1, "-2>=1": 0, "1>=-2": 1, "-2>=-1": 0, "w>=m": 0, "m>=w": 1,
	"1==2": 0, "2==2": 1, "-1==1": 0, "-1==-1": 1, "w==w": 1, "w==m": 0,
	"1!=2": 1, "2!=2": 0, "-1!=1": 1, "-1!=-1": 0, "w!=w": 0, "w!=m": 1,
	"min(-3,2)": -3, "min(2,-3)": -3, "min(4,4)": 4, "min(w,m)": -2147483648, "min(m,w)": -2147483648,
	"max(-3,2)": 2, "max(2,-3)": 2, "max(4,4)": 4, "max(w,m)": 2147483647, "max(m,w)": 2147483647,
	"clamp(4,0,9)": 4, "clamp(-4,0,9)": 0, "clamp(12,0,9)": 9, "clamp(3,9,5)": 5, "clamp(9,5,3)": 3, "clamp(1,3,9)": 3, "clamp(-1,-9,-5)": -5, "clamp(m,w,0)": 0, "clamp(w,-1,m)": -1, "clamp(0,m,w)": -2147483648,
	"med(1,5,9)": 5, "med(1,9,5)": 5, "med(5,1,9)": 5, "med(5,9,1)": 5, "med(9,1,5)": 5, "med(9,5,1)": 5, "med(2,2,9)": 2, "med(9,2,9)": 9, "med(-1,-5,-9)": -5, "med(w,m,-1)": -1, "med(m,m,w)": 2147483647,
	"1?10:20": 10, "0?10:20": 20, "-1?10:20": 10, "m?10:20": 10, "w?10:20": 10, "1-1?10:20": 20, "0?w:m": 2147483647, "1?w:m": -2147483648,
}

func TestOperatorsByHand(t *testing.T) {
	seen := map[int]int{}
	for text, want := range reckoned {
		x := treeOf(t, "let m=2147483647;let w=-m-1;"+text)
		answers(t, image, x, windowOf(image, 3), want)
		answers(t, sound, x, windowOf(sound, 3), want)
		seen[x.Nodes[x.Root].Op]++
	}
	for _, op := range operators {
		if seen[op] < 5 {
			t.Errorf("the operator %d is asked %d times", op, seen[op])
		}
	}
}

// exactly asks an operator of numbers alone: it is refused just where it has no answer of 32 bits.
func exactly(t *testing.T, op int, args ...int) {
	t.Helper()
	var list []expr
	var wholes []*big.Int
	for _, a := range args {
		list = append(list, literal(a))
		wholes = append(wholes, whole(a))
	}
	_, e := modelled(t, image, alone(of(op, list...)), windowOf(image, 3))
	if (operated(op, wholes) != nil) != (e == api.OK) {
		t.Errorf("the operator %d of %v: %d", op, args, e)
	}
}

func TestOperatorsOfNumbers(t *testing.T) {
	many := []int{-1 << 31, -1<<31 + 1, -1 << 30, -65536, -46341, -33, -32, -31, -8, -7, -3, -2, -1, 0, 1, 2, 3, 7, 8, 30, 31, 32, 33, 255, 46340, 65535, 1 << 30, 1<<31 - 2, 1<<31 - 1}
	few := []int{-1 << 31, -7, -2, -1, 0, 1, 2, 7, 1<<31 - 1}
	for _, op := range operators {
		list := many
		if parts[op] == 3 {
			list = few
		}
		for _, a := range list {
			if parts[op] == 1 {
				exactly(t, op, a)
				continue
			}
			for _, b := range list {
				if parts[op] == 2 {
					exactly(t, op, a, b)
					continue
				}
				for _, c := range list {
					exactly(t, op, a, b, c)
				}
			}
		}
	}
}

// tamed answers an operator of these parts with the second one such that the check may take it: divisors above 0, or below it, counts of 0 to 15.
func tamed(op int, list []expr) []api.Tree {
	second := func(b expr) []expr { return append([]expr{list[0], b}, list[2:]...) }
	switch op {
	case api.OpDiv, api.OpMod:
		return []api.Tree{alone(of(op, second(of(api.OpMax, list[1], num(1)))...)), alone(of(op, second(of(api.OpMin, list[1], of(api.OpNeg, num(1))))...))}
	case api.OpShl, api.OpShr:
		return []api.Tree{alone(of(op, second(of(api.OpAnd, list[1], num(15)))...))}
	}
	return []api.Tree{alone(of(op, list...))}
}

// The numbers come from the window: the check knows spans alone.
func TestOperatorsOfPlaces(t *testing.T) {
	edges := []int{-32768, -32767, -17, -7, -2, -1, 0, 1, 2, 7, 15, 31, 32767}
	var list []expr
	for x := -1; x >= -3; x-- {
		list = append(list, at(api.Place{Coords: 1, X: x}))
	}
	for _, op := range operators {
		for _, x := range tamed(op, list[:parts[op]]) {
			for i, a := range edges {
				for j, b := range edges {
					w := windowOf(sound, uint(i))
					w.P[15], w.P[14], w.P[13] = a, b, edges[(i*5+j*7)%len(edges)]
					if _, e := modelled(t, sound, x, w); e != api.OK {
						t.Errorf("%s: %d", shown(x), e)
					}
				}
			}
		}
	}
	for text, want := range map[string]int{
		"-p(-1)": 7, "abs(p(-1))": 7, "sgn(p(-1))": -1, "p(-1)+p(-2)": -4, "p(-1)-p(-2)": -10, "p(-2)-p(-1)": 10, "p(-1)*p(-2)": -21, "p(-1)/max(p(-2),1)": -2, "p(-2)/min(p(-1),-1)": 0, "p(-1)%max(p(-2),1)": -1, "p(-2)%min(p(-1),-1)": 3,
		"p(-1)<<(p(-2)&15)": -56, "p(-2)<<(p(-1)&15)": 1536, "p(-1)>>(p(-2)&15)": -1, "p(-2)>>(p(-1)&15)": 0, "p(-1)&p(-2)": 1, "p(-1)|p(-2)": -5, "p(-1)^p(-2)": -6,
		"p(-1)<p(-2)": 1, "p(-2)<p(-1)": 0, "p(-1)<=p(-2)": 1, "p(-2)<=p(-1)": 0, "p(-1)>p(-2)": 0, "p(-2)>p(-1)": 1, "p(-1)>=p(-2)": 0, "p(-2)>=p(-1)": 1, "p(-1)==p(-2)": 0, "p(-1)!=p(-2)": 1, "p(-1)==p(-1)": 1,
		"min(p(-1),p(-2))": -7, "max(p(-1),p(-2))": 3, "clamp(p(-1),p(-2),p(-3))": 3, "clamp(p(-3),p(-1),p(-2))": 3, "clamp(p(-2),p(-3),p(-1))": -7, "med(p(-1),p(-2),p(-3))": 3, "p(-1)?p(-2):p(-3)": 3, "p(-4)?p(-2):p(-3)": 20,
	} {
		w := windowOf(sound, 3)
		w.P[15], w.P[14], w.P[13], w.P[12] = -7, 3, 20, 0
		answers(t, sound, treeOf(t, text), w, want)
	}
}

func TestOperatorsOfInputs(t *testing.T) {
	taken := map[int]int{}
	kinds(func(k api.Kind) {
		for _, op := range operators {
			for i := range 6 {
				for j := range 6 {
					list := []expr{in(i), in(j), in((i + 2*j) % 6)}[:parts[op]]
					for _, x := range tamed(op, list) {
						for _, seed := range []uint{0, 1, 2, 5} {
							if _, e := modelled(t, k, x, windowOf(k, seed)); e == api.OK {
								taken[op]++
							}
						}
					}
				}
			}
		}
	})
	for _, op := range operators {
		if taken[op] < 1000 {
			t.Errorf("the operator %d is taken %d times", op, taken[op])
		}
	}
}

// Each part is a name, bound in another order than it is used.
func TestOperatorsOfNames(t *testing.T) {
	next := draw(3)
	for _, op := range operators {
		for range 50 {
			list := []expr{num(1 + next(9)), literal(-1 - next(9)), num(20 + next(9))}
			args := []expr{use(2), use(0), use(1)}[:parts[op]]
			if parts[op] == 3 && next(2) == 0 {
				args[0], args[2] = args[2], args[0]
			}
			x := laid(list, of(op, args...))
			if _, e := modelled(t, image, x, windowOf(image, 4)); e != api.OK {
				t.Errorf("%s: %d", shown(x), e)
			}
		}
	}
}

// 10.1: names

func TestNames(t *testing.T) {
	for text, want := range map[string][]int{
		"let a=3;a":                           {3, 3},
		"let a=3;a+a":                         {3, 3, 3, 6},
		"let a=3;1":                           {3, 1},
		"let a=3;let b=4;a-b":                 {3, 4, 3, 4, -1},
		"let a=3;let b=4;b-a":                 {3, 4, 4, 3, 1},
		"let a=3;let b=4;a":                   {3, 4, 3},
		"let a=3;let b=4;b":                   {3, 4, 4},
		"let a=p(-1,0);a*a+a":                 {7, 7, 7, 49, 7, 56},
		"let a=p(-1,0);let b=p(0,-1);a-b":     {7, 30, 7, 30, -23},
		"let a=p(-1,0);let b=q(1,0,0);x":      {7, 200, 5},
		"let a=p(-1,0);let b=a;let d=b;d+b+a": {7, 7, 7, 7, 7, 14, 7, 21},
		"let a=1+2;let b=a*a;let d=b-a;d":     {1, 2, 3, 3, 3, 9, 9, 3, 6, 6},
		"let a=x?y:c;a*a":                     {5, 6, 1, 6, 6, 6, 36},
		"let a=0?y:c;let b=a?a:7;b-a":         {0, 6, 1, 1, 1, 1, 7, 1, 1, 1, 0},
		"let a=p(-1,0);let u=a*100;let v=u;a": {7, 7, 100, 700, 700, 7},
		"let a=hi;let b=lo-a;b>>1":            {255, 0, 255, -255, -255, 1, -128},
		"let a=x;let b=y;a?b?a:b:c":           {5, 6, 5, 6, 5, 6, 5, 1, 5},
		"let b=1;let a=2;let z=3;let y0=4;z":  {1, 2, 3, 4, 3},
	} {
		tells(t, image, treeOf(t, text), example(), want...)
	}
}

// A name is told once, however often it is used: each doubles the one ahead.
func TestManyUses(t *testing.T) {
	is := []expr{in(api.InC)}
	want := []int{1}
	for i := range 23 {
		is = append(is, of(api.OpAdd, use(i), use(i)))
		want = append(want, 1<<i, 1<<i, 1<<(i+1))
	}
	tells(t, image, laid(is, use(23)), example(), append(want, 1<<23)...)
	is = []expr{of(api.OpSub, in(api.InC), num(8))}
	for i := range 1020 {
		is = append(is, use(i))
	}
	want = append([]int{1, 8}, slices.Repeat([]int{-7}, 1022)...)
	tells(t, image, laid(is, use(1020)), example(), want...)
	tells(t, image, laid(is, use(7)), example(), want...)
}

// 10.1: choices

func TestChoices(t *testing.T) {
	for left, taken := range map[int]int{0: 1, 6: 1, 7: 2, 8: 1, 255: 1} {
		w := example()
		w.P[16] = left
		values := []int{200, 30}
		// The condition, what is behind ?, what is behind : and the choice; also what isn't taken is told.
		tells(t, image, treeOf(t, "p(-1,0)-7?q(1,0,0):p(0,-1)"), w, left, 7, left-7, 200, 30, values[taken-1])
		tells(t, image, treeOf(t, "p(-1,0)-7?q(1,0,0)/7:p(0,-1)%7"), w, left, 7, left-7, 200, 7, 28, 30, 7, 2, []int{28, 2}[taken-1])
		answers(t, image, treeOf(t, "(p(-1,0)-7?1:2)?(p(-1,0)-7?3:4):5"), w, 2+taken)
	}
	tells(t, image, treeOf(t, "0?1:2"), example(), 0, 1, 2, 2)
	tells(t, image, treeOf(t, "1?1:2"), example(), 1, 1, 2, 1)
	tells(t, image, treeOf(t, "-1?1:2"), example(), 1, -1, 1, 2, 1)
	tells(t, image, treeOf(t, "let u=x?p(-1,0):p(0,-1);3"), example(), 5, 7, 30, 7, 3)
	tells(t, image, treeOf(t, "x<3?1:x<5?2:x<6?3:4"), example(), 5, 3, 0, 1, 5, 5, 0, 2, 5, 6, 1, 3, 4, 3, 3, 3)
	w := windowOf(sound, 3)
	for _, w.P[15] = range []int{-32768, -2, -1, 0, 1, 2, 32767} {
		want := 20
		if w.P[15] == 0 {
			want = 30
		}
		tells(t, sound, treeOf(t, "p(-1)?20:30"), w, w.P[15], 20, 30, want)
		tells(t, sound, treeOf(t, "let u=p(-1)?20:30;let v=p(-1);v?v:u"), w, w.P[15], 20, 30, want, w.P[15], w.P[15], w.P[15], want, map[bool]int{true: 30, false: w.P[15]}[w.P[15] == 0])
	}
}

// 10.2

// The root is the last node, also where names are bound behind each other and none is used.
func TestEvalIsTheRoot(t *testing.T) {
	for text, want := range map[string]int{"1": 1, "let a=1;2": 2, "let a=1;let b=2;3": 3, "let a=1;let b=2;a": 1, "let a=1;let b=2;b-a*5": -3, "x*100+y*10+c": 561, "-x": -5} {
		x := treeOf(t, text)
		if n, e := eval.Eval(image, x, example()); n != want || e != api.OK {
			t.Errorf("Eval(%q) = %d, %d, not %d", text, n, e, want)
		}
		answers(t, image, x, example(), want)
	}
	for e, trees := range faults(t) {
		for _, x := range trees {
			if n, f := eval.Eval(image, x, example()); n != 0 || f != e {
				t.Errorf("Eval(%s) = %d, %d, not the error %d", shown(x), n, f, e)
			}
		}
	}
}

// 10.3

func TestProgramsOfEveryKind(t *testing.T) {
	taken := map[string]int{}
	kinds(func(k api.Kind) {
		for _, text := range programs {
			for seed := range uint(windows) {
				if _, e := modelled(t, k, treeOf(t, text), windowOf(k, seed)); e == api.OK {
					taken[text]++
				}
			}
		}
	})
	for text, count := range map[string]int{"1": 32, "x": 32, "p(-1,0)": 16, "p(-16)": 16, median: 16, "x*x": 16, "x*y": 32, "p(-1)*p(-2)": 16, "p(-1,0)*p(0,-1)": 15, "1/p(-1,0)": 0, "1/(hi-1)": 30, "1/mid": 16} {
		if taken[text] != count*windows {
			t.Errorf("%q is taken on %d windows, not on %d", text, taken[text], count*windows)
		}
	}
}

// sketch answers an expression of at most so many levels, in which so many names may be used.
func sketch(next func(int) int, form, deep, names int) expr {
	if deep == 0 || next(6) == 0 {
		switch next(6) {
		case 0:
			return in(next(6))
		case 1, 2:
			list := places(form)
			return at(list[next(len(list))])
		case 3:
			if names > 0 {
				return use(next(names))
			}
		case 4:
			return num([]int{0, 1, 31, 32, 255, 65535, 1<<31 - 1}[next(7)])
		}
		return num(1 + next(9))
	}
	e := expr{op: operators[next(len(operators))]}
	for range parts[e.op] {
		e.parts = append(e.parts, sketch(next, form, deep-1, names))
	}
	// Divisors and counts that may be, most of the time.
	switch e.op {
	case api.OpDiv, api.OpMod:
		if next(4) > 0 {
			e.parts[1] = of(api.OpMax, e.parts[1], num(1+next(5)))
		}
	case api.OpShl, api.OpShr:
		if next(4) > 0 {
			e.parts[1] = of(api.OpAnd, e.parts[1], num([]int{3, 7, 31}[next(3)]))
		}
	}
	return e
}

func TestTreesAtRandom(t *testing.T) {
	next := draw(11)
	got := map[api.Errno]int{}
	for range 3000 {
		form, deep := next(2), 1+next(5)
		var is []expr
		for i := range next(4) {
			is = append(is, sketch(next, form, deep-1, i))
		}
		x := laid(is, sketch(next, form, deep, len(is)))
		k := api.Kind{Form: form, Depth: 1 + next(16)}
		for seed := range uint(windows) {
			_, e := modelled(t, k, x, windowOf(k, seed))
			got[e]++
			if e != api.OK {
				break
			}
		}
	}
	for e, least := range map[api.Errno]int{api.OK: 6000, api.ErrDivZero: 100, api.ErrOverflow: 300} {
		if got[e] < least {
			t.Errorf("the answer %d came %d times", e, got[e])
		}
	}
}

// Programs as dear and as deep as may be.
func TestGreatestPrograms(t *testing.T) {
	answers(t, image, alone(ones(24)), example(), 1)
	answers(t, image, alone(summed(100)), example(), 100)
	answers(t, image, treeOf(t, "0"+strings.Repeat("+1%2", 22)), example(), 22)
	// Each place of the window with a weight of its own.
	for _, k := range []api.Kind{image, sound} {
		var sum func(from, to int) expr
		list := places(k.Form)
		sum = func(from, to int) expr {
			if to-from == 1 {
				return of(api.OpMul, at(list[from]), num(from+1))
			}
			half := (from + to) / 2
			return of(api.OpAdd, sum(from, half), sum(half, to))
		}
		x := alone(sum(0, len(list)))
		for seed := range uint(50) {
			w := windowOf(k, seed)
			want := 0
			for n, sample := range w.P {
				want += (n + 1) * sample
			}
			answers(t, k, x, w, want)
		}
	}
}

// edged answers what the median-edge predictor tells, by the chapter's three cases.
func edged(left, above, corner int) int {
	switch {
	case corner >= left && corner >= above:
		return min(left, above)
	case corner <= left && corner <= above:
		return max(left, above)
	}
	return left + above - corner
}

func TestTheMedianAtEveryDepth(t *testing.T) {
	x := treeOf(t, median)
	for depth := 1; depth <= 16; depth++ {
		k := api.Kind{Form: api.Image, Depth: depth}
		if _, e := check.Check(k, x); e != api.OK {
			t.Errorf("the median for the depth %d: %d", depth, e)
		}
		top := 1<<depth - 1
		var list []int
		for n := range min(8, top+1) {
			list = append(list, n)
		}
		if depth > 3 {
			list = []int{0, 1, 2, top / 3, top/2 - 1, top / 2, top/2 + 1, top - 2, top - 1, top}
		}
		for _, left := range list {
			for _, above := range list {
				w := windowOf(k, uint(3+left%7+above))
				w.P[16], w.P[10] = left, above
				corners := list
				if depth > 3 {
					// The cases' borders as well.
					corners = append([]int{left - 1, left, left + 1, above - 1, above, above + 1, (left + above) / 2}, list...)
				}
				for _, corner := range corners {
					if corner < 0 || corner > top {
						continue
					}
					w.P[9] = corner
					answers(t, k, x, w, edged(left, above, corner))
				}
			}
		}
	}
}

func TestTheMedianByHand(t *testing.T) {
	for _, c := range [][4]int{
		{7, 30, 10, 27}, {30, 7, 10, 27}, {7, 30, 30, 7}, {7, 30, 31, 7}, {7, 30, 29, 8}, {7, 30, 7, 30}, {7, 30, 6, 30}, {7, 30, 8, 29}, {30, 7, 255, 7}, {30, 7, 0, 30}, {5, 5, 5, 5}, {5, 5, 4, 5}, {5, 5, 6, 5},
		{0, 255, 0, 255}, {0, 255, 255, 0}, {0, 255, 128, 127}, {255, 255, 0, 255}, {0, 0, 255, 0}, {255, 0, 1, 254}, {255, 0, 254, 1},
	} {
		w := example()
		w.P[16], w.P[10], w.P[9] = c[0], c[1], c[2]
		answers(t, image, treeOf(t, median), w, c[3])
	}
}

// P1

func TestListsAreNewMemory(t *testing.T) {
	for _, text := range []string{"1", median, "let a=p(-1,0)+1;a*a", "let d=abs(p(-1,0)-p(0,-1));d<2?0:d<8?1:d<32?2:3"} {
		x, treeStands := roomy(treeOf(t, text))
		w, windowStands := roomyWindow(example())
		one, _ := eval.All(image, x, w)
		two, _ := eval.All(image, x, w)
		kept := slices.Clone(two)
		if len(one) != len(x.Nodes) || !slices.Equal(one, two) {
			t.Errorf("%q: %v, then %v", text, one, two)
		}
		whole := one[:cap(one)]
		for i := range whole {
			whole[i] = -99
		}
		if !slices.Equal(two, kept) {
			t.Errorf("%q: two lists share memory", text)
		}
		if !treeStands() || !windowStands() {
			t.Errorf("%q: a list shares memory with the tree or the window", text)
		}
		three, e := eval.All(image, x, w)
		if e != api.OK || !slices.Equal(three, kept) {
			t.Errorf("%q: what was written into a list is seen: %v, %d", text, three, e)
		}
		for i := range x.Nodes {
			x.Nodes[i] = api.Node{}
		}
		for i := range x.Binds {
			x.Names[i], x.Binds[i] = "", -1
		}
		for i := range w.P {
			w.P[i] = -5
		}
		if !slices.Equal(three, kept) {
			t.Errorf("%q: what was written into the tree or the window is seen", text)
		}
	}
}

// What a refused call was given stays as it was too; beside an error the list is empty.
func TestRefusedCallsLeaveAllAsItWas(t *testing.T) {
	for e, trees := range faults(t) {
		for _, x := range trees {
			y, treeStands := roomy(x)
			for _, v := range append(strange(), example()) {
				w, windowStands := roomyWindow(v)
				list, f := eval.All(image, y, w)
				n, g := eval.Eval(image, y, w)
				if len(list) != 0 || n != 0 || f != e || g != e {
					t.Errorf("%s: %v, %d and %d, %d", shown(x), list, f, n, g)
				}
				if !treeStands() || !windowStands() {
					t.Errorf("%s, refused, was changed", shown(x))
				}
			}
		}
	}
}

func TestEmptyListsAreNone(t *testing.T) {
	x := alone(of(api.OpAdd, num(1), num(2)))
	for _, names := range [][]string{nil, {}} {
		for _, binds := range [][]int{nil, {}} {
			x.Names, x.Binds = names, binds
			if list, e := eval.All(image, x, example()); e != api.OK || !slices.Equal(list, []int{1, 2, 3}) {
				t.Errorf("%v, %d", list, e)
			}
		}
	}
	for _, p := range [][]int{nil, {}} {
		if n, e := eval.Eval(image, x, api.Window{P: p}); n != 0 || e != api.ErrInput {
			t.Errorf("%d, %d", n, e)
		}
	}
}

func TestOneWindowOneAnswer(t *testing.T) {
	for _, text := range programs {
		for _, k := range []api.Kind{image, sound} {
			x, w := treeOf(t, text), windowOf(k, 6)
			want, f := eval.All(k, x, w)
			for range 3 {
				eval.All(api.Kind{Form: 1, Depth: 1}, treeOf(t, "p(-1)"), api.Window{P: make([]int, 31)})
				eval.Eval(image, treeOf(t, "1/0"), example())
				eval.Eval(image, treeOf(t, "p(-1,0)"), api.Window{})
				eval.All(api.Kind{}, api.Tree{}, api.Window{})
				if list, e := eval.All(k, x, w); e != f || !slices.Equal(list, want) {
					t.Errorf("%q for %v: %v, %d, not %v, %d", text, k, list, e, want, f)
				}
			}
		}
	}
}

// The tests' own bounds and places are those of layer 3.
func TestTheTestsKinds(t *testing.T) {
	kinds(func(k api.Kind) {
		low, high, border := samples(k)
		if low != kind.Low(k) || high != kind.High(k) || border != kind.Border(k) || len(places(k.Form)) != kind.Count(k) {
			t.Errorf("%v: %d, %d, %d, %d places", k, low, high, border, len(places(k.Form)))
		}
		for n, p := range kind.All(k) {
			if places(k.Form)[n] != p {
				t.Errorf("%v: the place %d is %v", k, n, p)
			}
		}
		for seed := range uint(50) {
			if w := windowOf(k, seed); !fits(k, w) || kind.Fits(k, w) != api.OK {
				t.Errorf("%v: %v doesn't fit", k, w)
			}
		}
	})
}
