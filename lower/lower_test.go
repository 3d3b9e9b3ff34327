package lower_test

import (
	"fmt"
	"maps"
	"math"
	"slices"
	"strings"
	"testing"

	"damask/api"
	"damask/check"
	"damask/code"
	"damask/kind"
	"damask/lower"
)

var (
	image = api.Kind{Form: api.Image, Depth: 8}
	sound = api.Kind{Form: api.Sound, Depth: 16}
)

// operators are the operators that have parts, in one order.
var operators = slices.Sorted(maps.Keys(parts))

const median = "med(p(-1,0),p(0,-1),p(-1,0)+p(0,-1)-p(-1,-1))"

// programs are ordinary ones, of images, of sounds and of both.
var programs = []string{
	"1", "x", "y", "c", "lo", "hi", "mid", "p(-1,0)", "q(1,-1)", "q(3,1,1)", "p(-16)", "p(-1,0)+1", "(p(-1,0)+p(0,-1))/2", median,
	"let a=p(-1,0);let b=p(0,-1);let c0=p(-1,-1);c0>=max(a,b)?min(a,b):c0<=min(a,b)?max(a,b):a+b-c0",
	"1/(abs(p(-1,0)-p(0,-1))+1)", "(x&255)*(x&255)", "x*x", "x*y", "2*p(-1)-p(-2)", "clamp(2*p(-1)-p(-2),lo,hi)", "let a=hi;a*a", "x?1:y?2:3",
	"c?q(1,0,0)+p(-1,0)-q(1,-1,0):mid", "let d=abs(p(-1,0)-p(0,-1));d<2?0:d<8?1:d<32?2:3", "-x", "--1", "sgn(-x)<<3>>1", "1<<2<3|4&5^6",
	"let a=1;let b=a;let c2=a+b;(c2%3==0)!=(a>b)", "min(x,max(y,-c))", "let unused=q(3,-4);2147483647", "let e=p(-1)-p(-2);e/3+e%5*(e>>1)-(e<<2)&7|-e^c",
	"p(-1)*p(-2)", "p(-1,0)*p(0,-1)", "p(-1,0)*32768", "p(-1)<<15", "p(-1)<<16", "1/p(-1,0)", "1/p(-1)", "x%((p(-1)&7)+1)", "x>>(p(-1,0)&15)", "1<<(p(-1)&31)",
	"1/(hi-1)", "1/(lo+2)", "1<<(hi>>12)", "hi*hi", "mid*mid*4", "1/mid", "p(-1)-p(-2)?p(-1)/3:p(-2)%3", "let a=p(-1)<0?-p(-1):p(-1);a==abs(p(-1))",
}

// kinds goes over all kinds that may be.
func kinds(do func(k api.Kind)) {
	for form := range 2 {
		for depth := 1; depth <= 16; depth++ {
			do(api.Kind{Form: form, Depth: depth})
		}
	}
}

// Instructions: a number, an input, a place by its number, an operator of registers.

func number(k int) api.Inst { return api.Inst{Op: api.OpNum, K: k} }
func input(k int) api.Inst  { return api.Inst{Op: api.OpIn, K: k} }
func place(n int) api.Inst  { return api.Inst{Op: api.OpPlace, K: n} }

func inst(op int, registers ...int) api.Inst {
	n := api.Inst{Op: op}
	for i, to := range []*int{&n.A, &n.B, &n.C}[:len(registers)] {
		*to = registers[i]
	}
	return n
}

// ones answers an expression of a depth that comes to 1.
func ones(depth int) expr {
	e := num(1)
	for range depth - 1 {
		e = of(api.OpAbs, e)
	}
	return e
}

// summed answers the sum of so many ones, as flat as may be: it costs one less than twice as much.
func summed(count int) expr {
	if count == 1 {
		return num(1)
	}
	return of(api.OpAdd, summed(count-count/2), summed(count/2))
}

// The chapter's examples

func TestExamples(t *testing.T) {
	becomes(t, image, treeOf(t, "let a=hi;a*a"), 1, input(api.InHi), inst(api.OpMul, 0, 0))
	becomes(t, image, treeOf(t, "p(-1,0)+q(1,0,0)"), 2, place(16), place(21), inst(api.OpAdd, 0, 1))
	becomes(t, image, treeOf(t, "x?1:-2"), 4, input(api.InX), number(1), number(2), inst(api.OpNeg, 2), inst(api.OpSel, 0, 1, 3))
	becomes(t, image, treeOf(t, "let a=1;let b=a;let e=2;b"), 0, number(1), number(2))
}

// 12.1: the check's error

// faults are trees that the check refuses for {Image, 8} and {Sound, 16}, with its error.
func faults(t *testing.T) map[api.Errno][]api.Tree {
	t.Helper()
	texts := func(list ...string) []api.Tree {
		var trees []api.Tree
		for _, text := range list {
			trees = append(trees, treeOf(t, text))
		}
		return trees
	}
	one := api.Node{Op: api.OpNum, K: 1}
	unsound := []api.Tree{
		{}, {Root: 1}, {Root: -1}, {Nodes: []api.Node{{}}}, {Nodes: []api.Node{{Op: api.OpNeg}}}, {Nodes: []api.Node{one}, Root: 1}, {Nodes: []api.Node{one}, Root: -1},
		{Nodes: []api.Node{{Op: api.OpUse}}}, {Nodes: []api.Node{{Op: api.OpPlace}}}, {Nodes: []api.Node{one, one}, Root: 1}, {Nodes: []api.Node{one, one}, Root: 0},
		{Nodes: []api.Node{one}, Names: []string{"a"}}, {Nodes: []api.Node{one}, Binds: []int{0}}, {Nodes: []api.Node{one, one}, Names: []string{"x"}, Binds: []int{0}, Root: 1},
		{Nodes: []api.Node{one, {Op: api.OpUse, K: 1}}, Names: []string{"a"}, Binds: []int{0}, Root: 1}, {Nodes: []api.Node{one, {Op: api.OpUse}}, Names: []string{"a"}, Binds: []int{1}, Root: 1},
		{Nodes: []api.Node{one, one, {Op: api.OpAdd, A: 1, B: 0}}, Root: 2}, {Nodes: []api.Node{one, {Op: api.OpNeg, B: 1}}, Root: 1}, {Nodes: []api.Node{one, {Op: api.OpShlK, K: 1}}, Root: 1}, {Nodes: []api.Node{{Op: api.OpNum, K: -1}}}, {Nodes: []api.Node{{Op: api.OpIn, K: 6}}},
	}
	dear := []api.Tree{alone(ones(25)), alone(summed(101)), laid([]expr{ones(25)}, num(1)), laid([]expr{summed(101)}, num(1)), laid([]expr{ones(24)}, of(api.OpNeg, use(0))), laid([]expr{num(1), num(1)}, summed(100))}
	return map[api.Errno][]api.Tree{
		api.ErrForm:     unsound,
		api.ErrAhead:    texts("p(0,0)", "p(0)", "q(4,0)", "q(4,0,0)", "p(4,-1)", "p(-1,1)", "p(0,-3)", "q(1,1)", "q(1,2,0)", "let a=p(0);1", "p(0,0)/0", "1/0+p(0)", "2147483647+1+p(0)", "x?1:p(-17)", "1"+strings.Repeat("+1", 200)+"+p(0)"),
		api.ErrDivZero:  texts("1/0", "1%0", "1/c", "1%(c-1)", "1/(x-y)", "let a=1/0;1", "1?1:1/0", "0?1%0:1", "1/0+(1<<31)", "c==0?1:100/c", "1"+strings.Repeat("+1", 200)+"+1/0"),
		api.ErrOverflow: texts("2147483647+1", "-2147483647-2", "65536*32768", "1<<31", "1<<32", "1>>32", "1>>-1", "x<<9+c*4", "-(-2147483647-1)", "abs(-2147483647-1)", "(-2147483647-1)/-1", "let a=1<<31;1", "1?1:1<<31", "(1<<31)+1/0", "1<<x"),
		api.ErrCost:     append(dear, texts("1"+strings.Repeat("%1", 29), strings.Repeat("-", 24)+"1", "let a=1"+strings.Repeat("+1%2", 23)+";a")...),
	}
}

func TestErrorsOfTheCheck(t *testing.T) {
	for e, trees := range faults(t) {
		for _, x := range trees {
			for _, k := range []api.Kind{image, sound} {
				refused(t, k, x, e)
			}
		}
	}
}

func TestKindsThatMayNotBe(t *testing.T) {
	odd := []int{math.MinInt, -1 << 32, -17, -16, -8, -1, 0, 1, 2, 3, 8, 16, 17, 18, 256, 1 << 32, 1<<32 + 1, 1<<32 + 8, math.MaxInt}
	trees := []api.Tree{treeOf(t, "1"), treeOf(t, "p(-1)"), treeOf(t, "p(-1,0)"), treeOf(t, "x+lo+hi+mid")}
	for _, list := range faults(t) {
		trees = append(trees, list...)
	}
	count := 0
	for _, form := range odd {
		for _, depth := range odd {
			k := api.Kind{Form: form, Depth: depth}
			if mayBe(k) {
				continue
			}
			count++
			for _, x := range trees {
				refused(t, k, x, api.ErrInput)
			}
		}
	}
	if count != len(odd)*len(odd)-2*5 {
		t.Errorf("%d kinds that may not be", count)
	}
}

// The same program is taken for one kind and refused for another.
func TestErrorsByTheKind(t *testing.T) {
	for text, errors := range map[string][4]api.Errno{
		"p(-1,0)":        {api.OK, api.OK, api.ErrAhead, api.ErrAhead},
		"p(-1)":          {api.ErrAhead, api.ErrAhead, api.OK, api.OK},
		"x*x":            {api.OK, api.OK, api.ErrOverflow, api.ErrOverflow},
		"1/mid":          {api.OK, api.OK, api.ErrDivZero, api.ErrDivZero},
		"1/(hi-1)":       {api.ErrDivZero, api.OK, api.OK, api.OK},
		"1<<(hi>>12)":    {api.OK, api.OK, api.OK, api.OK},
		"hi<<16":         {api.OK, api.ErrOverflow, api.OK, api.OK},
		"1/lo":           {api.ErrDivZero, api.ErrDivZero, api.OK, api.OK},
		"let a=lo;1/-a":  {api.ErrDivZero, api.ErrDivZero, api.OK, api.OK},
		"hi*hi":          {api.OK, api.ErrOverflow, api.OK, api.OK},
		"lo*lo+hi*hi":    {api.OK, api.ErrOverflow, api.OK, api.OK},
		"lo*lo*2+hi*hi":  {api.OK, api.ErrOverflow, api.OK, api.ErrOverflow},
		"p(-1)?1/0:lo*y": {api.ErrAhead, api.ErrAhead, api.ErrDivZero, api.ErrDivZero},
	} {
		for i, k := range []api.Kind{{Form: api.Image, Depth: 1}, {Form: api.Image, Depth: 16}, {Form: api.Sound, Depth: 1}, {Form: api.Sound, Depth: 16}} {
			if errors[i] != api.OK {
				refused(t, k, treeOf(t, text), errors[i])
			} else if c, e := modelled(t, k, treeOf(t, text)); e != api.OK || c.Kind != k {
				t.Errorf("%q for %v: %v, %d", text, k, c, e)
			}
		}
	}
}

// edges are numbers about those that a field may be.
func edges(x api.Tree) []int {
	list := []int{math.MinInt, -1 << 31, -2, -1, 0, 1, 2, 3, 5, 6, 1024, 1<<31 - 1, 1 << 31, math.MaxInt}
	return append(list, len(x.Nodes)-2, len(x.Nodes)-1, len(x.Nodes), len(x.Names)-1, len(x.Names))
}

func TestOneThingChanged(t *testing.T) {
	got := map[api.Errno]int{}
	for i, text := range programs {
		k := []api.Kind{image, sound, {Form: api.Image, Depth: 1}}[i%3]
		x := treeOf(t, text)
		y := copied(x)
		fields := []*int{&y.Root}
		for i := range y.Binds {
			fields = append(fields, &y.Binds[i])
		}
		for i := range y.Nodes {
			n := &y.Nodes[i]
			fields = append(fields, &n.Op, &n.A, &n.B, &n.C, &n.K, &n.At.Back, &n.At.Coords, &n.At.X, &n.At.Y)
		}
		for _, field := range fields {
			was := *field
			for _, to := range append(edges(x), was-1, was+1, api.OpMul, api.OpSel, api.OpShlK, api.OpMulS) {
				*field = to
				_, e := modelled(t, k, y)
				got[e]++
			}
			*field = was
		}
	}
	for e, least := range map[api.Errno]int{api.OK: 500, api.ErrForm: 1000, api.ErrAhead: 100, api.ErrDivZero: 5, api.ErrOverflow: 5} {
		if got[e] < least {
			t.Errorf("the answer %d came %d times", e, got[e])
		}
	}
}

// Trees of any numbers: whatever they are, there is an answer.
func TestWildTrees(t *testing.T) {
	next := draw(7)
	number := func() int {
		if next(3) > 0 {
			return next(8) - 1
		}
		return []int{math.MinInt, math.MaxInt, -1 << 31, 1 << 31, 1<<31 - 1, 1 << 62, 1024}[next(7)]
	}
	for range 10000 {
		x := api.Tree{Root: number()}
		for range next(6) {
			x.Nodes = append(x.Nodes, api.Node{Op: next(40) - 2, A: number(), B: number(), C: number(), K: number(), At: api.Place{Back: number(), Coords: number(), X: number(), Y: number()}})
		}
		for range next(3) {
			x.Names = append(x.Names, []string{"a", "b", "x", "", "\xff"}[next(5)])
		}
		for range next(3) {
			x.Binds = append(x.Binds, number())
		}
		modelled(t, api.Kind{Form: next(3), Depth: next(18)}, x)
	}
	for _, count := range []int{1024, 1025, 5000} {
		x := api.Tree{Nodes: slices.Repeat([]api.Node{{Op: api.OpNeg}}, count), Root: count - 1}
		x.Nodes[0] = api.Node{Op: api.OpNum}
		for i := range x.Nodes {
			x.Nodes[i].A = max(i-1, 0)
		}
		refused(t, image, x, map[bool]api.Errno{true: api.ErrForm, false: api.ErrCost}[count > 1024])
	}
}

// 12.1: numbers, inputs, places

func TestNumbers(t *testing.T) {
	kinds(func(k api.Kind) {
		for _, n := range []int{0, 1, 2, 255, 256, 65535, 65536, 1<<31 - 2, 1<<31 - 1} {
			becomes(t, k, alone(num(n)), 0, number(n))
			becomes(t, k, alone(of(api.OpNeg, num(n))), 1, number(n), inst(api.OpNeg, 0))
			becomes(t, k, laid([]expr{num(n)}, num(n)), 1, number(n), number(n))
		}
	})
}

func TestInputs(t *testing.T) {
	kinds(func(k api.Kind) {
		for n, name := range []string{"x", "y", "c", "lo", "hi", "mid"} {
			becomes(t, k, treeOf(t, name), 0, input(n))
			becomes(t, k, treeOf(t, "1?-"+name+":2"), 4, number(1), input(n), inst(api.OpNeg, 1), number(2), inst(api.OpSel, 0, 2, 3))
		}
		becomes(t, k, treeOf(t, "let a=mid;let b=hi;let d=lo;let e=c;let f=y;x"), 5, input(5), input(4), input(3), input(2), input(1), input(0))
	})
}

// written answers a place as a text writes it.
func written(p api.Place) string {
	var list []string
	if p.Back > 0 {
		list = append(list, fmt.Sprint(p.Back))
	}
	list = append(list, fmt.Sprint(p.X))
	if p.Coords == 2 {
		list = append(list, fmt.Sprint(p.Y))
	}
	return map[bool]string{false: "p(", true: "q("}[p.Back > 0] + strings.Join(list, ",") + ")"
}

func TestPlaces(t *testing.T) {
	kinds(func(k api.Kind) {
		list := places(k.Form)
		if len(list) != []int{44, 31}[k.Form] {
			t.Fatalf("%v has %d places", k, len(list))
		}
		var all []expr
		var insts, turned []api.Inst
		for n, p := range list {
			becomes(t, k, treeOf(t, written(p)), 0, place(n))
			becomes(t, k, treeOf(t, "let a="+written(p)+";a-a"), 1, place(n), inst(api.OpSub, 0, 0))
			all = append(all, at(p))
			insts, turned = append(insts, place(n)), append(turned, place(len(list)-1-n))
		}
		// All of them in one program, from the first and from the last.
		last := len(list) - 1
		becomes(t, k, laid(all[:last], all[last]), last, insts...)
		slices.Reverse(all)
		becomes(t, k, laid(all[:last], all[last]), last, turned...)
	})
}

func TestPlacesByTheirNumbers(t *testing.T) {
	for text, n := range map[string]int{
		"p(-3,-2)": 0, "p(0,-2)": 3, "p(3,-2)": 6, "p(-3,-1)": 7, "p(-1,-1)": 9, "p(0,-1)": 10, "p(1,-1)": 11, "p(3,-1)": 13, "p(-3,0)": 14, "p(-2,0)": 15, "p(-1,0)": 16,
		"q(1,-1,-1)": 17, "q(1,1,-1)": 19, "q(1,-1,0)": 20, "q(1,0,0)": 21, "q(1,0,1)": 24, "q(1,1,1)": 25, "q(2,-1,-1)": 26, "q(2,0,0)": 30, "q(2,1,1)": 34, "q(3,-1,-1)": 35, "q(3,0,0)": 39, "q(3,1,1)": 43,
	} {
		becomes(t, image, treeOf(t, text), 0, place(n))
		refused(t, sound, treeOf(t, text), api.ErrAhead)
	}
	for text, n := range map[string]int{"p(-16)": 0, "p(-9)": 7, "p(-2)": 14, "p(-1)": 15, "q(1,-4)": 16, "q(1,0)": 20, "q(2,-4)": 21, "q(2,-1)": 24, "q(2,0)": 25, "q(3,-4)": 26, "q(3,0)": 30} {
		becomes(t, sound, treeOf(t, text), 0, place(n))
		refused(t, image, treeOf(t, text), api.ErrAhead)
	}
}

// Of all places about the window just the kind's are taken.
func TestPlacesAboutTheWindow(t *testing.T) {
	for _, k := range []api.Kind{image, sound} {
		taken := 0
		for back := range 6 {
			for x := -18; x <= 18; x++ {
				for y := -4; y <= 4; y++ {
					list := []api.Place{{Back: back, Coords: 2, X: x, Y: y}}
					if y == 0 {
						list = append(list, api.Place{Back: back, Coords: 1, X: x})
					}
					for _, p := range list {
						if c, e := modelled(t, k, alone(at(p))); e == api.OK {
							taken++
						} else if e != api.ErrAhead || len(c.Insts) != 0 {
							t.Errorf("%v for %v: %v, %d", p, k, c, e)
						}
					}
				}
			}
		}
		if taken != len(places(k.Form)) {
			t.Errorf("%d places are taken for %v", taken, k)
		}
	}
}

// 12.1: operators

// marks are the operators as a text writes them, of the parts 1, 2 and 3.
var marks = map[int]string{
	api.OpNeg: "-1", api.OpAbs: "abs(1)", api.OpSgn: "sgn(1)",
	api.OpAdd: "1+2", api.OpSub: "1-2", api.OpMul: "1*2", api.OpDiv: "1/2", api.OpMod: "1%2", api.OpShl: "1<<2", api.OpShr: "1>>2", api.OpAnd: "1&2", api.OpOr: "1|2", api.OpXor: "1^2",
	api.OpLt: "1<2", api.OpLe: "1<=2", api.OpGt: "1>2", api.OpGe: "1>=2", api.OpEq: "1==2", api.OpNe: "1!=2", api.OpMin: "min(1,2)", api.OpMax: "max(1,2)",
	api.OpClamp: "clamp(1,2,3)", api.OpMed: "med(1,2,3)", api.OpSel: "1?2:3",
}

// marked answers an operator's text of these parts.
func marked(op int, list ...string) string {
	var pairs []string
	for i, part := range list {
		pairs = append(pairs, fmt.Sprint(i+1), part)
	}
	return strings.NewReplacer(pairs...).Replace(marks[op])
}

// The parts are the names of registers, in every order, each alone and more than once.
func TestOperatorsInEveryOrder(t *testing.T) {
	names := []string{"a", "b", "d"}
	for _, op := range operators {
		for i := range 27 {
			order := []int{i % 3, i / 3 % 3, i / 9}
			text := marked(op, names[order[0]], names[order[1]], names[order[2]])
			for _, k := range []api.Kind{image, sound} {
				x := treeOf(t, "let a=7;let b=9;let d=5;"+text)
				becomes(t, k, x, 3, number(7), number(9), number(5), inst(op, order[:parts[op]]...))
			}
		}
	}
}

// The parts are reckoned themselves: their registers differ, and none is 0 but where a part comes first.
func TestOperatorsOfParts(t *testing.T) {
	for _, op := range operators {
		insts := []api.Inst{number(7), number(9), number(5)}[:parts[op]]
		var first, second []int
		for i := range parts[op] {
			first = append(first, i)
			second = append(second, 2*i+1)
		}
		becomes(t, image, treeOf(t, marked(op, "7", "9", "5")), parts[op], append(slices.Clone(insts), inst(op, first...))...)
		var deep []api.Inst
		for i := range parts[op] {
			deep = append(deep, insts[i], inst(api.OpAbs, 2*i))
		}
		deep = append(deep, inst(op, second...))
		becomes(t, sound, treeOf(t, marked(op, "abs(7)", "abs(9)", "abs(5)")), 2*parts[op], deep...)
		// Behind a name that is never used, all registers are one further on.
		for i := range second {
			second[i]++
		}
		later := []api.Inst{input(api.InC)}
		for i := range parts[op] {
			later = append(later, insts[i], inst(api.OpAbs, 2*i+1))
		}
		later = append(later, inst(op, second...))
		becomes(t, image, treeOf(t, "let u=c;"+marked(op, "abs(7)", "abs(9)", "abs(5)")), 2*parts[op]+1, later...)
	}
}

// An operator of an operator, each of each.
func TestOperatorsOfOperators(t *testing.T) {
	for _, outer := range operators {
		for _, inner := range operators {
			for place := range parts[outer] {
				list := []string{"7", "9", "5"}
				list[place] = "max(1,(" + marked(inner, "3", "2", "4") + ")&7)"
				x := treeOf(t, marked(outer, list...))
				if c, e := modelled(t, image, x); e != api.OK || len(c.Insts) != len(x.Nodes) || c.Out != x.Root {
					t.Errorf("%s: %v, %d", shown(x), c, e)
				}
			}
		}
	}
}

// The numbers come from the window.
func TestOperatorsOfPlaces(t *testing.T) {
	for _, op := range operators {
		second := "p(-2)"
		switch op {
		case api.OpDiv, api.OpMod:
			second = "max(p(-2),3)"
		case api.OpShl, api.OpShr:
			second = "(p(-2)&15)"
		}
		x := treeOf(t, marked(op, "p(-1)", second, "p(-3)"))
		c, e := modelled(t, sound, x)
		if e != api.OK {
			t.Errorf("%s: %d", shown(x), e)
			continue
		}
		edges := []int{-32768, -7, -1, 0, 1, 15, 32767}
		for i, a := range edges {
			for j, b := range edges {
				w := windowOf(sound, uint(i))
				w.P[15], w.P[14], w.P[13] = a, b, edges[(i*5+j*3)%len(edges)]
				means(t, sound, x, c, w)
			}
		}
	}
}

// 12.1: names

func TestNames(t *testing.T) {
	for text, want := range map[string]struct {
		out   int
		insts []api.Inst
	}{
		"let a=3;a":   {0, []api.Inst{number(3)}},
		"let a=3;1":   {1, []api.Inst{number(3), number(1)}},
		"let a=3;-a":  {1, []api.Inst{number(3), inst(api.OpNeg, 0)}},
		"let a=3;a+a": {1, []api.Inst{number(3), inst(api.OpAdd, 0, 0)}},
		"let a=3;a+1": {2, []api.Inst{number(3), number(1), inst(api.OpAdd, 0, 1)}},
		"let a=3;1+a": {2, []api.Inst{number(3), number(1), inst(api.OpAdd, 1, 0)}},
		// More names: each is its own node's register.
		"let a=3;let b=4;a":                  {0, []api.Inst{number(3), number(4)}},
		"let a=3;let b=4;b":                  {1, []api.Inst{number(3), number(4)}},
		"let a=3;let b=4;a-b":                {2, []api.Inst{number(3), number(4), inst(api.OpSub, 0, 1)}},
		"let a=3;let b=4;b-a":                {2, []api.Inst{number(3), number(4), inst(api.OpSub, 1, 0)}},
		"let b=1;let a=2;let z=3;let y0=4;z": {2, []api.Inst{number(1), number(2), number(3), number(4)}},
		// Places.
		"let a=p(-1,0);a*a+a":             {2, []api.Inst{place(16), inst(api.OpMul, 0, 0), inst(api.OpAdd, 1, 0)}},
		"let a=p(-1,0);let b=q(3,1,1);x":  {2, []api.Inst{place(16), place(43), input(api.InX)}},
		"let a=p(-1,0);let b=p(0,-1);b/3": {3, []api.Inst{place(16), place(10), number(3), inst(api.OpDiv, 1, 2)}},
		// Names of names, and names of these.
		"let a=1;let b=a;b":                         {0, []api.Inst{number(1)}},
		"let a=1;let b=a;let d=b;let e=d;e":         {0, []api.Inst{number(1)}},
		"let a=1;let b=a;let d=b;d+b*a":             {2, []api.Inst{number(1), inst(api.OpMul, 0, 0), inst(api.OpAdd, 0, 1)}},
		"let a=1;let b=2;let d=b;let e=a;d-e":       {2, []api.Inst{number(1), number(2), inst(api.OpSub, 1, 0)}},
		"let a=1;let b=a;let d=2;let e=b;let f=d;f": {1, []api.Inst{number(1), number(2)}},
		"let a=1;let b=a;let d=2;let e=d;d-e-b":     {3, []api.Inst{number(1), number(2), inst(api.OpSub, 1, 1), inst(api.OpSub, 2, 0)}},
		// Names of what is reckoned: a name is the register of its last node.
		"let a=1+2;a":                     {2, []api.Inst{number(1), number(2), inst(api.OpAdd, 0, 1)}},
		"let a=1+2;let b=a*a;let d=b-a;d": {4, []api.Inst{number(1), number(2), inst(api.OpAdd, 0, 1), inst(api.OpMul, 2, 2), inst(api.OpSub, 3, 2)}},
		"let a=hi;let b=lo-a;b>>1":        {4, []api.Inst{input(api.InHi), input(api.InLo), inst(api.OpSub, 1, 0), number(1), inst(api.OpShr, 2, 3)}},
		// Choices.
		"let a=x?y:c;a":               {3, []api.Inst{input(0), input(1), input(2), inst(api.OpSel, 0, 1, 2)}},
		"let a=x?y:c;a*a":             {4, []api.Inst{input(0), input(1), input(2), inst(api.OpSel, 0, 1, 2), inst(api.OpMul, 3, 3)}},
		"let a=x?y:c;7":               {4, []api.Inst{input(0), input(1), input(2), inst(api.OpSel, 0, 1, 2), number(7)}},
		"let a=x;let b=y;a?b?a:b:c":   {4, []api.Inst{input(0), input(1), inst(api.OpSel, 1, 0, 1), input(2), inst(api.OpSel, 0, 2, 3)}},
		"let a=x;a?a:a":               {1, []api.Inst{input(0), inst(api.OpSel, 0, 0, 0)}},
		"let a=0?y:c;let b=a?a:7;b-a": {6, []api.Inst{number(0), input(1), input(2), inst(api.OpSel, 0, 1, 2), number(7), inst(api.OpSel, 3, 3, 4), inst(api.OpSub, 5, 3)}},
		// Uses at the start, in the middle and at the end of what is reckoned.
		"let a=x;a+1+2":                                {4, []api.Inst{input(0), number(1), inst(api.OpAdd, 0, 1), number(2), inst(api.OpAdd, 2, 3)}},
		"let a=x;1+a+2":                                {4, []api.Inst{input(0), number(1), inst(api.OpAdd, 1, 0), number(2), inst(api.OpAdd, 2, 3)}},
		"let a=x;1+2+a":                                {4, []api.Inst{input(0), number(1), number(2), inst(api.OpAdd, 1, 2), inst(api.OpAdd, 3, 0)}},
		"let a=x;1+(2+a)":                              {4, []api.Inst{input(0), number(1), number(2), inst(api.OpAdd, 2, 0), inst(api.OpAdd, 1, 3)}},
		"let a=x;med(a,1,2)":                           {3, []api.Inst{input(0), number(1), number(2), inst(api.OpMed, 0, 1, 2)}},
		"let a=x;med(1,a,2)":                           {3, []api.Inst{input(0), number(1), number(2), inst(api.OpMed, 1, 0, 2)}},
		"let a=x;med(1,2,a)":                           {3, []api.Inst{input(0), number(1), number(2), inst(api.OpMed, 1, 2, 0)}},
		"let a=x;let b=a;let d=y;d-b":                  {2, []api.Inst{input(0), input(1), inst(api.OpSub, 1, 0)}},
		"let a=x;let b=a-1;let d=b+a;d*y":              {5, []api.Inst{input(0), number(1), inst(api.OpSub, 0, 1), inst(api.OpAdd, 2, 0), input(1), inst(api.OpMul, 3, 4)}},
		"let u=y;let a=-u;let b=c;clamp(a,b,u)-abs(a)": {5, []api.Inst{input(1), inst(api.OpNeg, 0), input(2), inst(api.OpClamp, 1, 2, 0), inst(api.OpAbs, 1), inst(api.OpSub, 3, 4)}},
	} {
		becomes(t, image, treeOf(t, text), want.out, want.insts...)
	}
}

// Uses alone have no instruction, however many they are; what follows them is numbered as if they weren't there.
func TestManyUses(t *testing.T) {
	is := []expr{of(api.OpSub, in(api.InC), num(8))}
	for i := range 1020 {
		is = append(is, use(i))
	}
	for _, k := range []api.Kind{image, sound} {
		for _, n := range []int{0, 1, 7, 1020} {
			becomes(t, k, laid(is, use(n)), 2, input(api.InC), number(8), inst(api.OpSub, 0, 1))
		}
		becomes(t, k, laid(is[:1000], of(api.OpMul, use(3), of(api.OpAdd, num(4), use(999)))), 5, input(api.InC), number(8), inst(api.OpSub, 0, 1), number(4), inst(api.OpAdd, 3, 2), inst(api.OpMul, 2, 4))
	}
	// Each doubles the one ahead.
	is = []expr{in(api.InC)}
	insts := []api.Inst{input(api.InC)}
	for i := range 23 {
		is = append(is, of(api.OpAdd, use(i), use(i)))
		insts = append(insts, inst(api.OpAdd, i, i))
	}
	for i := range is {
		becomes(t, image, laid(is, use(i)), i, insts...)
	}
}

// 12.2

func TestProgramsOfEveryKind(t *testing.T) {
	taken := map[string]int{}
	kinds(func(k api.Kind) {
		for _, text := range programs {
			if _, e := modelled(t, k, treeOf(t, text)); e == api.OK {
				taken[text]++
			}
		}
	})
	for text, count := range map[string]int{"1": 32, "x": 32, "p(-1,0)": 16, "p(-16)": 16, median: 16, "x*x": 16, "x*y": 32, "p(-1)*p(-2)": 16, "p(-1,0)*p(0,-1)": 15, "1/p(-1,0)": 0, "1/(hi-1)": 30, "1/mid": 16} {
		if taken[text] != count {
			t.Errorf("%q is taken for %d kinds, not for %d", text, taken[text], count)
		}
	}
}

func TestTheMedian(t *testing.T) {
	for depth := 1; depth <= 16; depth++ {
		k := api.Kind{Form: api.Image, Depth: depth}
		becomes(t, k, treeOf(t, median), 7, place(16), place(10), place(16), place(10), inst(api.OpAdd, 2, 3), place(9), inst(api.OpSub, 4, 5), inst(api.OpMed, 0, 1, 6))
	}
	c, e := lower.Lower(image, treeOf(t, median))
	w := windowOf(image, 3)
	w.P[16], w.P[10], w.P[9] = 7, 30, 10
	values, f := code.Values(c, w)
	if e != api.OK || f != api.OK || !slices.Equal(values, []int{7, 30, 7, 30, 37, 10, 27, 27}) {
		t.Errorf("the median: %v, %d, %d", values, e, f)
	}
}

// What a code of uses comes to, by hand.
func TestValuesByHand(t *testing.T) {
	c, e := lower.Lower(image, treeOf(t, "let a=p(-1,0);let b=a;let d=q(1,0,0);let u=x-b;d<a?u:b*2-d"))
	w := windowOf(image, 3)
	w.X, w.P[16], w.P[21] = 5, 7, 200
	values, f := code.Values(c, w)
	if e != api.OK || f != api.OK || c.Out != 8 || !slices.Equal(values, []int{7, 200, 5, -2, 0, 2, 14, -186, -186}) {
		t.Errorf("%v, %v, %d, %d", c, values, e, f)
	}
}

// sketch answers an expression of at most so many levels, in which so many names may be used.
func sketch(next func(int) int, form, deep, names int) expr {
	if deep == 0 || next(6) == 0 {
		switch next(7) {
		case 0:
			return in(next(6))
		case 1, 2:
			list := places(form)
			return at(list[next(len(list))])
		case 3, 4:
			if names > 0 {
				return use(next(names))
			}
		case 5:
			return num([]int{0, 1, 31, 32, 255, 65535, 1<<31 - 1}[next(7)])
		}
		return num(1 + next(9))
	}
	e := expr{op: operators[next(len(operators))]}
	for range parts[e.op] {
		e.parts = append(e.parts, sketch(next, form, deep-1, names))
	}
	// Divisors and counts that may be, most of the time.
	switch e.op {
	case api.OpDiv, api.OpMod:
		if next(4) > 0 {
			e.parts[1] = of(api.OpMax, e.parts[1], num(1+next(5)))
		}
	case api.OpShl, api.OpShr:
		if next(4) > 0 {
			e.parts[1] = of(api.OpAnd, e.parts[1], num([]int{3, 7, 31}[next(3)]))
		}
	}
	return e
}

func TestTreesAtRandom(t *testing.T) {
	next := draw(11)
	got := map[api.Errno]int{}
	for range 4000 {
		form, deep := next(2), 1+next(5)
		var is []expr
		for i := range next(6) {
			is = append(is, sketch(next, form, max(deep-1-next(3), 0), i))
		}
		x := laid(is, sketch(next, form, deep, len(is)))
		_, e := modelled(t, api.Kind{Form: form, Depth: 1 + next(16)}, x)
		got[e]++
	}
	for e, least := range map[api.Errno]int{api.OK: 1000, api.ErrDivZero: 50, api.ErrOverflow: 200} {
		if got[e] < least {
			t.Errorf("the answer %d came %d times", e, got[e])
		}
	}
}

// costs asks for the cost that the check tells, and that the code has just it.
func costs(t *testing.T, x api.Tree, cost, count int) {
	t.Helper()
	for _, k := range []api.Kind{image, sound} {
		c, e := modelled(t, k, x)
		r, f := check.Check(k, x)
		if e != api.OK || f != api.OK || r.Cost != cost || code.Cost(c) != cost || len(c.Insts) != count {
			t.Errorf("%s: %d instructions, %d; the cost is %d, of the code %d", shown(x), len(c.Insts), e, r.Cost, code.Cost(c))
		}
	}
}

// Programs as dear and as deep as may be.
func TestGreatestPrograms(t *testing.T) {
	costs(t, alone(ones(24)), 24, 24)
	costs(t, alone(summed(100)), 199, 199)
	costs(t, laid([]expr{num(1)}, summed(100)), 200, 200)
	refused(t, image, laid([]expr{num(1), num(2)}, summed(100)), api.ErrCost)
	costs(t, treeOf(t, "0"+strings.Repeat("+1%2", 22)), 199, 89)
	// As many numbers as may be, and uses as many as there is room for: the last use is Root.
	var is []expr
	var insts []api.Inst
	for i := range 200 {
		is = append(is, num(i))
		insts = append(insts, number(i))
	}
	for i := range 823 {
		is = append(is, use(i%200))
	}
	costs(t, laid(is, use(1022)), 200, 200)
	becomes(t, image, laid(is, use(1022)), 822%200, insts...)
	becomes(t, sound, laid(is, use(199)), 199, insts...)
	refused(t, image, laid(is, num(1)), api.ErrCost)
	// Remainders, at 6 each, of names.
	is = []expr{in(api.InX), num(7)}
	insts = []api.Inst{input(api.InX), number(7)}
	for range 33 {
		is = append(is, of(api.OpMod, use(0), use(1)))
		insts = append(insts, inst(api.OpMod, 0, 1))
	}
	costs(t, laid(is, use(34)), 200, 35)
	becomes(t, image, laid(is, use(34)), 34, insts...)
	refused(t, image, laid(is, num(1)), api.ErrCost)
}

// P1

func TestListsAreNewMemory(t *testing.T) {
	for _, text := range []string{"1", "let a=1;a", median, "let a=p(-1,0)+1;a*a", "let d=abs(p(-1,0)-p(0,-1));d<2?0:d<8?1:d<32?2:3"} {
		x, stands := roomy(treeOf(t, text))
		one, _ := lower.Lower(image, x)
		two, _ := lower.Lower(image, x)
		kept := api.Code{Kind: two.Kind, Insts: slices.Clone(two.Insts), Out: two.Out}
		if len(one.Insts) == 0 || !alike(one, two) {
			t.Errorf("%q: %v, then %v", text, one, two)
		}
		whole := one.Insts[:cap(one.Insts)]
		for i := range whole {
			whole[i] = api.Inst{Op: -99, A: -99, B: -99, C: -99, K: -99, S: -99}
		}
		if !alike(two, kept) {
			t.Errorf("%q: two codes share memory", text)
		}
		if !stands() {
			t.Errorf("%q: a code shares memory with the tree", text)
		}
		three, e := lower.Lower(image, x)
		if e != api.OK || !alike(three, kept) {
			t.Errorf("%q: what was written into a code is seen: %v, %d", text, three, e)
		}
		for i := range x.Nodes {
			x.Nodes[i] = api.Node{Op: -1, A: -1, K: -1}
		}
		for i := range x.Binds {
			x.Names[i], x.Binds[i] = "", -1
		}
		if !alike(three, kept) {
			t.Errorf("%q: what was written into the tree is seen", text)
		}
	}
}

func TestEmptyListsAreNone(t *testing.T) {
	x := alone(of(api.OpAdd, num(1), num(2)))
	for _, names := range [][]string{nil, {}} {
		for _, binds := range [][]int{nil, {}} {
			x.Names, x.Binds = names, binds
			becomes(t, image, x, 2, number(1), number(2), inst(api.OpAdd, 0, 1))
			refused(t, image, api.Tree{Names: names, Binds: binds, Nodes: []api.Node{}}, api.ErrForm)
		}
	}
}

func TestOneTreeOneAnswer(t *testing.T) {
	for _, text := range programs {
		for _, k := range []api.Kind{image, sound} {
			x := treeOf(t, text)
			want, f := lower.Lower(k, x)
			for range 3 {
				lower.Lower(api.Kind{Form: 1, Depth: 1}, treeOf(t, "p(-1)"))
				lower.Lower(image, treeOf(t, "1/0"))
				lower.Lower(image, treeOf(t, "let a=1;let b=a;p(-1,0)-b"))
				lower.Lower(api.Kind{}, api.Tree{})
				if c, e := lower.Lower(k, x); e != f || !alike(c, want) {
					t.Errorf("%q for %v: %v, %d, not %v, %d", text, k, c, e, want, f)
				}
			}
		}
	}
}

// The tests' own bounds and places are those of layer 3.
func TestTheTestsKinds(t *testing.T) {
	kinds(func(k api.Kind) {
		low, high := samples(k)
		if low != kind.Low(k) || high != kind.High(k) || len(places(k.Form)) != kind.Count(k) {
			t.Errorf("%v: %d, %d, %d places", k, low, high, len(places(k.Form)))
		}
		for n, p := range kind.All(k) {
			if places(k.Form)[n] != p {
				t.Errorf("%v: the place %d is %v", k, n, p)
			}
		}
		for seed := range uint(50) {
			if w := windowOf(k, seed); kind.Fits(k, w) != api.OK {
				t.Errorf("%v: %v doesn't fit", k, w)
			}
		}
	})
}
