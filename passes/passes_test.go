package passes_test

import (
	"fmt"
	"math"
	"slices"
	"strings"
	"testing"

	"damask/api"
	"damask/arith"
	"damask/code"
	"damask/kind"
	"damask/lower"
	"damask/parse"
	"damask/passes"
	"damask/verify"
)

// far are numbers far from all that may stand in a code or in an order.
var far = []int{math.MinInt, math.MinInt + 1, -1 << 62, -1 << 32, least - 1, 1 << 32, 1<<32 + 1, 1<<62 + 1, math.MaxInt - 1, math.MaxInt}

// The chapter's examples, and the document's

func TestExamples(t *testing.T) {
	const example = "place 16; place 16; add 0 1; num 2; div 2 3"
	becomes(t, example, "place 16; add 0 0; num 2; div 1 2", passes.Share, passes.Prune)
	becomesBest(t, example, "place 16; add 0 0; shrk 1 1")
}

// The document's first and sixth example: four steps, and a division that becomes a product.
func TestExamplesOfTheWhole(t *testing.T) {
	for text, want := range map[string]string{
		"(p(-1,0)+p(0,-1))/2": "place 16; place 10; add 0 1; shrk 2 1", "p(-1,0)/3": "place 16; muls 0 171 9",
		"p(-1,0)-p(-1,0)": "num 0", "hi-lo": "num 255", "p(-1,0)*1+0": "place 16", "let a=p(0,-1);(a+p(-1,0))*(p(-1,0)+a)": "place 10; place 16; add 0 1; mul 2 2",
	} {
		c, ok := lowered(t, image, text)
		d, e := subjectOf(t, c).bested(t)
		if !ok || e != api.OK || !code.Same(d, coded(want)) {
			t.Errorf("%q becomes %s, %d, not %s", text, shown(d), e, want)
		}
	}
}

func TestNumbers(t *testing.T) {
	if got := []int{passes.Fold, passes.Share, passes.Reduce, passes.Prune}; !slices.Equal(got, []int{1, 2, 3, 4}) {
		t.Errorf("the passes' numbers are %v", got)
	}
}

// Codes for the tests below.

// quotients writes two numbers and so many divisions of the one by the other: 4 each, and 2.
func quotients(count int) string { return "num 1; num 2" + strings.Repeat("; div 0 1", count) }

// repeated writes instructions so often, each with the number of its register less so many in the place of @1, @2, @3.
func repeated(start, text string, count int) string {
	for range count {
		own := strings.Count(start, ";") + 1
		start += "; " + strings.NewReplacer("@1", fmt.Sprint(own-1), "@2", fmt.Sprint(own-2), "@3", fmt.Sprint(own-3)).Replace(text)
	}
	return start
}

// taken are codes of {Image, 8} that Verify takes: such as no pass changes, and such as all of them do.
var taken = []string{
	"num 1", "in y", "place 43", "place 16; neg 0", "place 16; place 10; sub 0 1", "place 1; place 2; place 3; med 0 1 2", repeated("place 16", "neg @1", 199), repeated("place 1; place 2; place 3", "med @3 @1 @2", 197),
	"place 16; place 16; add 0 1; num 2; div 2 3", "in hi; in mid; sub 0 1; num 9; out 2", "num 2; num 3; mul 0 1; place 4; mul 2 3", "place 16; place 16; sub 0 1; sub 1 0; mul 2 3", "place 16; num 3; mod 0 1; div 0 1; mul 3 1; add 2 4; sub 5 0",
	"place 16; neg 0; num 4; div 1 2; mod 1 2; and 3 2; out 3", "place 16; neg 0; num 3; div 1 2; mod 1 2; shl 4 2", "place 16; num 10; mod 0 1; shlk 2 24", "place 16; num 10; mod 0 1; shlk 2 24; num 4; div 0 4",
	"place 1; place 2; in hi; num 255; add 0 2; add 0 3; sub 4 5; place 7", "place 16; place 16; eq 0 1; num 2; add 2 3; place 5; mul 5 4", "place 16; num 0; add 1 0; neg 2; neg 3; abs 4; sgn 5; out 4",
	quotients(49), quotients(49) + "; num 7; num 8; out 30", repeated("num 0", "num @1", 199), repeated("place 16; num 3", "mod 0 1", 33), repeated("place 16; neg 0; num 4", "mod 1 2", 32), "place 3; place 3; lt 0 1; num 5; num 5; sel 2 3 4",
}

// harmful are codes that Verify refuses, with its error; in some of them passes would do away with what is harmful.
func harmful() map[api.Errno][]api.Code {
	list := map[api.Errno][]api.Code{
		api.ErrCode: {
			{}, {Kind: image}, {Kind: image, Insts: []api.Inst{}}, {Kind: image, Insts: slices.Repeat([]api.Inst{{Op: api.OpNum}}, 1<<16)}, {Kind: api.Kind{Form: 2, Depth: 8}, Insts: []api.Inst{{Op: api.OpNum}}},
			{Kind: api.Kind{Form: 0, Depth: 17}, Insts: []api.Inst{{Op: api.OpNum}}}, {Kind: image, Insts: []api.Inst{{Op: api.OpNum, S: 1}}}, {Kind: image, Insts: []api.Inst{{Op: math.MaxInt}}}, {Kind: image, Insts: []api.Inst{{Op: api.OpNum}, {Op: api.OpUse}}, Out: 1},
		},
	}
	for _, out := range append([]int{-1, 1, 2}, far...) {
		list[api.ErrCode] = append(list[api.ErrCode], api.Code{Kind: image, Insts: []api.Inst{{Op: api.OpNum}}, Out: out})
	}
	for e, texts := range map[api.Errno][]string{
		api.ErrCode:     {repeated("num 0", "num @1", 200), "num 0; neg 1", "num 0; neg 1; out 0", "num 0; neg -1", "num 2147483648", "place 256", "in 6; num 1", "num 1; shlk 0 32; out 0"},
		api.ErrAhead:    {"place 44", "num 1; place 255; out 0", "num 0; div 0 0; place 44", "place 44; num 0; mul 0 1", quotients(50) + "; place 44"},
		api.ErrDivZero:  {"num 0; div 0 0", "place 16; mod 0 0", "num 1; num 0; div 0 1; out 0", "num 1; in lo; mod 0 1; num 7", "num 0; div 0 0; num most; add 2 2", "place 16; num 0; mul 0 1; num 3; div 3 2"},
		api.ErrOverflow: {"num most; num 1; add 1 0", "num least; neg 0; num 1", "place 16; shlk 0 24; out 0", "num 1; num 32; shl 0 1", "num 1; shlk 0 31; num 0; div 2 2", "num most; num most; add 0 1; num 0; mul 2 3"},
		api.ErrCost:     {quotients(50), quotients(50) + "; out 0", repeated("place 16; num 4", "mod 0 1", 34), quotients(49) + "; num 1; num 2; num 3"},
	} {
		for _, text := range texts {
			list[e] = append(list[e], coded(text))
		}
	}
	return list
}

// 18.1: ErrInput

// cycle answers an order of so many numbers.
func cycle(count, from int) []int {
	var order []int
	for i := range count {
		order = append(order, (from+i)%4+1)
	}
	return order
}

// ofAllSorts answers codes that are taken and such as aren't, one of each error among them.
func ofAllSorts() []api.Code {
	list := []api.Code{coded(taken[0]), coded(taken[8]), coded(taken[12]), codedFor(sound, "place 0; num 4; mod 0 1")}
	for _, some := range harmful() {
		list = append(list, some[0], some[len(some)-1])
	}
	return list
}

func TestTooManyNumbers(t *testing.T) {
	for _, c := range ofAllSorts() {
		for _, count := range []int{17, 18, 19, 32, 33, 100, 256, 1 << 16} {
			for from := range 4 {
				refused(t, c, api.ErrInput, cycle(count, from)...)
				refused(t, c, api.ErrInput, slices.Repeat([]int{from + 1}, count)...)
			}
		}
		refused(t, c, api.ErrInput, make([]int, 17)...)
	}
	if api.MaxPasses != 16 {
		t.Errorf("the most passes are %d", api.MaxPasses)
	}
}

// wrong are numbers that are none of the four: beside them, far off, and such as would be one of the four if they were cut to 8, 16 or 32 bits, or turned round.
var wrong = append([]int{0, -1, -2, -3, -4, -5, 5, 6, 7, 8, 16, 17, 255, 256, 257, 260, 1<<16 + 1, 1<<16 + 4, 1<<32 + 2, 1<<32 + 4, -1<<32 + 3, -1<<63 + 1, least, most}, far...)

func TestWrongNumbers(t *testing.T) {
	list := ofAllSorts()
	for _, n := range wrong {
		for _, count := range []int{1, 2, 3, 4, 15, 16, 17} {
			for at := range count {
				order := cycle(count, at)
				order[at] = n
				c := list[(count+at)%len(list)]
				refused(t, c, api.ErrInput, order...)
				refused(t, coded(taken[8]), api.ErrInput, order...)
			}
		}
		// Alone, and nothing but such.
		for _, c := range list {
			refused(t, c, api.ErrInput, n)
			refused(t, c, api.ErrInput, slices.Repeat([]int{n}, 16)...)
			refused(t, c, api.ErrInput, 1, n)
			refused(t, c, api.ErrInput, n, 4)
		}
	}
}

// Of each place of an order just the four numbers are taken.
func TestJustTheFour(t *testing.T) {
	s := subjectOf(t, coded(taken[8]))
	for n := -300; n <= 300; n++ {
		want := api.ErrInput
		if n >= 1 && n <= 4 {
			want = api.OK
		}
		for _, order := range [][]int{{n}, {n, 1}, {2, n}, {3, n, 4}} {
			if _, e := s.ran(t, order...); e != want {
				t.Errorf("%v: %d, not %d", order, e, want)
			}
		}
	}
}

// 18.1: Verify's error

func TestHarmfulCodes(t *testing.T) {
	for want, list := range harmful() {
		for _, c := range list {
			if _, e := verify.Verify(c); e != want {
				t.Fatalf("Verify(%s) = %d, not %d", shown(c), e, want)
			}
			for _, order := range append(orders(2), cycle(16, 0), cycle(15, 2), slices.Repeat([]int{4}, 16), []int{1, 4, 1, 4}) {
				refused(t, c, want, order...)
			}
			refused(t, c, want, []int{}...)
			refusedBest(t, c, want)
		}
	}
}

// 18.1: the passes, one behind the other

func TestNoNumber(t *testing.T) {
	for _, text := range taken {
		becomes(t, text, text)
		becomes(t, text, text, []int{}...)
		becomes(t, text, text, make([]int, 0, 20)...)
	}
}

func TestOnePass(t *testing.T) {
	becomes(t, "in hi; place 16; add 0 1", "num 255; place 16; add 0 1", passes.Fold)
	becomes(t, "place 16; place 10; add 1 0; place 16; out 3", "place 16; place 10; add 0 1; place 16; out 0", passes.Share)
	becomes(t, "place 16; num 3; div 0 1", "place 16; num 3; muls 0 171 9", passes.Reduce)
	becomes(t, "place 16; num 3; place 10; out 2", "place 10", passes.Prune)
}

func TestTwoPasses(t *testing.T) {
	const twice = "place 16; place 16; sub 0 1"
	becomes(t, twice, "place 16; place 16; num 0", passes.Share, passes.Fold)
	becomes(t, twice, "place 16; place 16; sub 0 0", passes.Fold, passes.Share)
	becomes(t, twice, "place 16; sub 0 0", passes.Share, passes.Prune)
	becomes(t, twice, "place 16; place 16; sub 0 0", passes.Prune, passes.Share)
	const third = "place 16; num 2; num 1; add 1 2; div 0 3"
	becomes(t, third, "place 16; num 2; num 1; num 3; muls 0 171 9", passes.Fold, passes.Reduce)
	becomes(t, third, "place 16; num 2; num 1; num 3; div 0 3", passes.Reduce, passes.Fold)
	becomes(t, third, "place 16; num 3; div 0 1", passes.Fold, passes.Prune)
	becomes(t, third, "place 16; num 2; num 1; num 3; div 0 3", passes.Prune, passes.Fold)
	const rest = "place 16; num 3; mod 0 1; div 0 1; mul 3 1; sub 0 4; add 2 5"
	becomes(t, rest, "place 16; num 3; muls 0 171 9; mulk 2 3; sub 0 3; muls 0 171 9; mulk 2 3; sub 0 3; add 4 4", passes.Reduce, passes.Share)
	becomes(t, rest, "place 16; num 3; muls 0 171 9; mulk 2 3; sub 0 3; muls 0 171 9; mulk 5 3; sub 0 6; add 4 7", passes.Share, passes.Reduce)
	becomes(t, rest, "place 16; muls 0 171 9; mulk 1 3; sub 0 2; muls 0 171 9; mulk 4 3; sub 0 5; add 3 6", passes.Reduce, passes.Prune)
	becomes(t, rest, "place 16; num 3; muls 0 171 9; mulk 2 3; sub 0 3; muls 0 171 9; mulk 5 3; sub 0 6; add 4 7", passes.Prune, passes.Reduce)
}

// Each pass alone, any two, any three and any four of them, in every order, also the same ones.
func TestEveryOrder(t *testing.T) {
	list := orders(4)
	if len(list) != 1+4+16+64+256 {
		t.Fatalf("%d orders", len(list))
	}
	answers := map[string]bool{}
	for i, text := range taken {
		s := subjectOf(t, coded(text))
		for _, order := range list {
			d, e := s.ran(t, order...)
			if e != api.OK {
				t.Errorf("Run(%s, %v): %d", text, order, e)
			}
			answers[fmt.Sprint(i, shown(d))] = true
		}
	}
	if len(answers) < 120 {
		t.Errorf("of %d codes there are %d answers", len(taken), len(answers))
	}
}

// What comes of two passes hangs on which stands first: for each two there are codes that tell it.
func TestOrderMatters(t *testing.T) {
	for a := 1; a <= 4; a++ {
		for b := 1; b < a; b++ {
			told := 0
			for _, text := range taken {
				s := subjectOf(t, coded(text))
				one, _ := s.ran(t, a, b)
				two, _ := s.ran(t, b, a)
				if !code.Same(one, two) {
					told++
				}
			}
			if told == 0 {
				t.Errorf("no code tells %d, %d from %d, %d", a, b, b, a)
			}
		}
	}
}

func TestTheSamePassOftener(t *testing.T) {
	for _, text := range taken {
		s := subjectOf(t, coded(text))
		for pass := 1; pass <= 4; pass++ {
			for count := 1; count <= 16; count++ {
				if _, e := s.ran(t, slices.Repeat([]int{pass}, count)...); e != api.OK {
					t.Errorf("Run(%s, %d times %d): %d", text, count, pass, e)
				}
			}
		}
		// Two and three passes in turn, up to as many as may be.
		for _, count := range []int{4, 7, 15, 16} {
			for _, order := range append(orders(3)[5:], best) {
				if _, e := s.ran(t, slices.Repeat(order, 16)[:count]...); e != api.OK {
					t.Errorf("Run(%s, %d of %v): %d", text, count, order, e)
				}
			}
		}
	}
}

// The last one of as many as may be is done too, and so is the first.
func TestAllOfSixteen(t *testing.T) {
	const text = "in hi; place 16; place 16; sub 1 2; num 2; div 3 4; add 0 5; num 9; out 6"
	s := subjectOf(t, coded(text))
	for at := range 16 {
		for pass := 1; pass <= 4; pass++ {
			for other := 1; other <= 4; other++ {
				order := slices.Repeat([]int{other}, 16)
				order[at] = pass
				if _, e := s.ran(t, order...); e != api.OK {
					t.Errorf("%v: %d", order, e)
				}
			}
		}
	}
	folded := "num 255; place 16; place 16; sub 1 2; num 2; div 3 4; add 0 5; num 9; out 6"
	becomes(t, text, folded, slices.Repeat([]int{passes.Fold}, 16)...)
	becomes(t, text, "num 255; place 16; place 16; sub 1 2; num 2; div 3 4; add 0 5", append(slices.Repeat([]int{passes.Fold}, 15), passes.Prune)...)
	becomes(t, text, "num 255; place 16; place 16; sub 1 2; num 2; div 3 4; add 0 5", append([]int{passes.Prune}, slices.Repeat([]int{passes.Fold}, 15)...)...)
}

// 18.2

// byStep are codes of {Image, 8}, each with orders beside that of Best that make another code of it: with a step left out, with two neighbours exchanged, or others.
var byStep = map[string][][]int{
	"place 16; num 1; num 2; add 1 2; div 0 3":                      {{2, 3, 1, 2, 4}, {1, 2, 1, 2, 4}, {1, 2, 3, 1, 2}},
	"place 16; place 16; sub 0 1":                                   {{1, 3, 1, 2, 4}, {1, 2, 3, 2, 4}},
	"place 16; num 3; div 0 1; mod 0 1; sub 2 3":                    {{1, 2, 3, 1, 4}, {1, 2, 3, 1, 4, 2}},
	"place 1; place 2; in hi; num 255; add 0 2; add 0 3; sub 4 5":   {{2, 1, 3, 1, 2, 4}},
	"place 16; num 3; mod 0 1; div 0 1; mul 3 1; sub 0 4; sub 2 5":  {{1, 3, 2, 1, 2, 4}, {1, 2, 3, 2, 1, 4}},
	"place 16; place 16; eq 0 1; num 2; add 2 3; place 5; mul 5 4":  {{1, 2, 1, 3, 2, 4}},
	"place 16; num 3; div 0 1; div 0 1; add 2 3; place 16; add 5 4": {{4, 1, 2, 3, 1, 2}, {}},
}

// Best does each of its six, each in its place.
func TestEachStepOfBest(t *testing.T) {
	told := map[string]bool{}
	for text, list := range byStep {
		s := subjectOf(t, coded(text))
		want, e := s.bested(t)
		for _, order := range list {
			d, f := s.ran(t, order...)
			if e != api.OK || f != api.OK || code.Same(d, want) {
				t.Errorf("%s: Best is %s, %d, and %v %s, %d", text, shown(want), e, order, shown(d), f)
			}
			told[fmt.Sprint(order)] = true
		}
	}
	for at := range best {
		if order := slices.Delete(slices.Clone(best), at, at+1); !told[fmt.Sprint(order)] {
			t.Errorf("no code tells Best from %v", order)
		}
		order := slices.Clone(best)
		if at > 0 {
			order[at-1], order[at] = order[at], order[at-1]
		}
		if at > 0 && !told[fmt.Sprint(order)] {
			t.Errorf("no code tells Best from %v", order)
		}
	}
}

func TestBest(t *testing.T) {
	for _, text := range taken {
		if _, e := subjectOf(t, coded(text)).bested(t); e != api.OK {
			t.Errorf("Best(%s): %d", text, e)
		}
	}
	becomesBest(t, "num 1", "num 1")
	becomesBest(t, "in hi; in mid; sub 0 1; num 9; out 2", "num 127")
	becomesBest(t, "place 16; place 16; sub 0 1; sub 1 0; mul 2 3", "num 0")
	becomesBest(t, "place 16; num 3; div 0 1; mod 0 1; sub 2 3", "place 16; muls 0 171 9; mulk 1 3; sub 0 2; sub 1 3")
	becomesBest(t, "place 3; place 4; num 0; add 1 2; max 3 0; out 4", "place 3; place 4; max 0 1")
	becomesBest(t, repeated("place 16", "neg @1", 199), "place 16; neg 0")
	becomesBest(t, quotients(49), "num 0")
}

// 18.3

// programs are ordinary ones, of images, of sounds and of both.
var programs = []string{
	"1", "x", "y", "c", "lo", "hi", "mid", "p(-1,0)", "q(1,-1)", "q(3,1,1)", "p(-16)", "p(-1,0)+1", "(p(-1,0)+p(0,-1))/2", "med(p(-1,0),p(0,-1),p(-1,0)+p(0,-1)-p(-1,-1))",
	"p(-1,-1)>=max(p(-1,0),p(0,-1))?min(p(-1,0),p(0,-1)):p(-1,-1)<=min(p(0,-1),p(-1,0))?max(p(0,-1),p(-1,0)):p(-1,0)+p(0,-1)-p(-1,-1)", "1/(abs(p(-1,0)-p(0,-1))+1)", "(x&255)*(x&255)", "2*p(-1)-p(-2)", "clamp(2*p(-1)-p(-2),lo,hi)", "let a=hi;a*a", "x?1:y?2:3", "c?q(1,0,0)+p(-1,0)-q(1,-1,0):mid",
	"abs(p(-1,0)-p(0,-1))<2?0:abs(p(-1,0)-p(0,-1))<8?1:abs(p(-1,0)-p(0,-1))<32?2:3", "-x", "--x-(--x)", "sgn(-x)<<3>>1", "1<<2<3|4&5^6", "let a=1;let b=a;let c2=a+b;(c2%3==0)!=(a>b)", "min(x,max(y,-c))+min(max(-c,y),x)", "let unused=q(3,-4);2147483647",
	"let a=p(-1);let b=p(-2);let s=a+b;let d=a-b;let u=s*2;u/3", "(p(-1)-p(-2))/3+(p(-1)-p(-2))%5*(p(-1)-p(-2)>>1)-(p(-1)-p(-2)<<2)&7", "hi-lo+1-(hi-lo+1)", "(p(-1)+p(-2))*(p(-2)+p(-1)&255)", "p(-1,0)+p(0,-1)-(p(0,-1)+p(-1,0))", "let a=p(-1);let b=p(-1);a-b",
	"(x?p(-1):p(-2))-(x?p(-1):p(-2))", "p(-1)*1+0*p(-2)", "(p(-1)+hi)*8%16", "p(-1)%10", "8*p(-1)/10", "(p(-1)*3-p(-2)*3+p(-3)+2)/4%256", "1<<p(-1)%3+2", "1/(p(-1)%3+3)", "x/10%10", "(x/3+y/5)%7", "p(-1)/2147483647", "p(-1)/-3", "p(-1)%-4", "p(-1)-p(-1)/7*7-p(-1)%7",
	"0" + strings.Repeat("+1%2", 22), strings.Repeat("-", 23) + "1", "1" + strings.Repeat("%7", 28), "1" + strings.Repeat("/7", 39), "p(-1)" + strings.Repeat("/2", 22), "x" + strings.Repeat("%4096", 22),
}

// lowered answers a program's code; false: it is none of the kind's.
func lowered(t *testing.T, k api.Kind, text string) (api.Code, bool) {
	t.Helper()
	tree, e := parse.Parse(text)
	if e != api.OK {
		t.Fatalf("Parse(%q): %d", text, e)
	}
	c, e := lower.Lower(k, tree)
	return c, e == api.OK
}

func TestPrograms(t *testing.T) {
	next := draw(18)
	asked, cheaper := 0, 0
	kinds(func(k api.Kind) {
		for _, text := range programs {
			c, ok := lowered(t, k, text)
			if !ok {
				continue
			}
			s := subjectOf(t, c)
			d, e := s.bested(t)
			if e != api.OK {
				t.Errorf("%q for %v: %d", text, k, e)
			}
			if asked++; code.Cost(d) < s.cost {
				cheaper++
			}
			for range 10 {
				if _, e := s.ran(t, cycleAtRandom(next)...); e != api.OK {
					t.Errorf("%q for %v: %d", text, k, e)
				}
			}
		}
	})
	if asked < 1200 || cheaper < 800 {
		t.Errorf("%d programs are taken, %d become cheaper", asked, cheaper)
	}
}

// cycleAtRandom answers an order that may be.
func cycleAtRandom(next func(int) int) []int {
	var order []int
	for range next(17) {
		order = append(order, 1+next(4))
	}
	return order
}

// every goes over all codes of so many instructions of a few operators, whichever registers they read.
func every(list []api.Inst, count int, do func([]api.Inst)) {
	if len(list) == count {
		do(list)
		return
	}
	i := len(list)
	list = slices.Clip(list)
	for _, n := range []api.Inst{{Op: api.OpPlace, K: 16}, {Op: api.OpNum, K: 2}, {Op: api.OpIn, K: api.InLo}} {
		every(append(list, n), count, do)
	}
	for a := range i {
		every(append(list, api.Inst{Op: api.OpNeg, A: a}), count, do)
		for b := range i {
			for _, op := range []int{api.OpAdd, api.OpMul, api.OpMod, api.OpDiv} {
				every(append(list, api.Inst{Op: op, A: a, B: b}), count, do)
			}
		}
	}
}

// All codes of up to three instructions, by all orders of up to three passes.
func TestEveryShortCode(t *testing.T) {
	asked, passed := 0, 0
	list := orders(3)
	for count := 1; count <= 3; count++ {
		every(nil, count, func(insts []api.Inst) {
			for out := range insts {
				s := subjectOf(t, api.Code{Kind: image, Insts: insts, Out: out}, windowsOf(image, 4)...)
				for _, order := range list {
					if _, e := s.ran(t, order...); e == api.OK {
						passed++
					}
					asked++
				}
				s.bested(t)
			}
		})
	}
	if asked != 85*(3+2*3*8+3*3*8*21) || passed < 50000 {
		t.Errorf("%d are asked, %d taken", asked, passed)
	}
}

// bounds are constants of the operators that have some.
var bounds = map[string][][2]int{
	"shlk": {{0, 0}, {1, 0}, {3, 0}, {16, 0}}, "shrk": {{0, 0}, {1, 0}, {3, 0}, {31, 0}}, "andk": {{0, 0}, {1, 0}, {3, 0}, {255, 0}, {most, 0}}, "mulk": {{-1 << 20, 0}, {-1, 0}, {0, 0}, {1, 0}, {3, 0}},
	"muls": {{1, 0}, {1, 1}, {1, 62}, {3, 1}, {171, 9}, {1431655766, 32}},
}

// sketch answers a code of a kind that may be, which has something for each pass; places are below a number. Of a hundred instructions that would be refused so many are kept.
func sketch(next func(int) int, k api.Kind, count, places, kept int) api.Code {
	c := api.Code{Kind: k}
	for i := 0; i < count && code.Cost(c) < 194; i++ {
		c.Insts = append(c.Insts, drawn(next, c.Insts, places))
		if _, e := verify.Verify(c); e != api.OK && next(100) >= kept {
			c.Insts[i] = api.Inst{Op: api.OpNum, K: next(6) - 1}
		}
	}
	c.Out = next(len(c.Insts))
	if next(2) == 0 {
		c.Out = len(c.Insts) - 1
	}
	return c
}

// drawn answers an instruction behind others: now and then one that stands there already, with its registers exchanged or not.
func drawn(next func(int) int, list []api.Inst, places int) api.Inst {
	i := len(list)
	if i > 0 && next(6) == 0 {
		n := list[next(i)]
		if readsOf(names[n.Op]) == 2 && next(3) == 0 {
			n.A, n.B = n.B, n.A
		}
		return n
	}
	name := all[next(len(all))]
	if next(4) == 0 {
		name = []string{"mul", "and", "shl", "shr", "div", "mod"}[next(6)]
	}
	if i == 0 || next(4) == 0 {
		name = []string{"num", "num", "in", "place", "place"}[next(5)]
	}
	n := api.Inst{Op: slices.Index(names, name)}
	for _, r := range []*int{&n.A, &n.B, &n.C}[:readsOf(name)] {
		if *r = next(i); next(2) == 0 {
			*r = i - 1 - next(min(i, 4))
		}
	}
	if readsOf(name) == 2 && next(3) == 0 {
		n.B = numbered(next, list, n.B)
	}
	switch name {
	case "num":
		n.K = []int{0, 1, -1, 2, 3, 5, 8, 1 << next(31), next(1 << 16), next(100) - 50}[next(10)]
	case "in":
		n.K = next(6)
	case "place":
		n.K = next(places)
	case "shlk", "shrk", "mulk", "andk", "muls":
		by := bounds[name][next(len(bounds[name]))]
		n.K, n.S = by[0], by[1]
	}
	return n
}

// numbered answers the register of a number among those ahead, or the one that it is given.
func numbered(next func(int) int, list []api.Inst, r int) int {
	for range 8 {
		if i := next(len(list)); list[i].Op == api.OpNum {
			return i
		}
	}
	return r
}

// Codes that no program gives, in orders of every length.
func TestCodesAtRandom(t *testing.T) {
	next := draw(81)
	got := map[api.Errno]int{}
	lengths := map[int]int{}
	cheaper, longer, shorter, stayed := 0, 0, 0, 0
	for i := range 8000 {
		k := api.Kind{Form: next(2), Depth: 1 + next(16)}
		limit := kind.Count(k)
		if next(10) == 0 {
			limit = 60
		}
		count, kept := 1+next(18), 15
		if i%80 == 0 {
			count, kept = 100+next(101), 0
		}
		s := subjectOf(t, sketch(next, k, count, limit, kept))
		s.bested(t)
		for range 6 {
			order := cycleAtRandom(next)
			d, e := s.ran(t, order...)
			lengths[len(order)]++
			if got[e]++; e != api.OK {
				continue
			}
			switch was, is := len(s.c.Insts), len(d.Insts); {
			case code.Same(s.c, d):
				stayed++
			case is > was:
				longer++
			case is < was:
				shorter++
			}
			if code.Cost(d) < s.cost {
				cheaper++
			}
		}
	}
	for e, least := range map[api.Errno]int{api.OK: 30000, api.ErrAhead: 200, api.ErrDivZero: 500, api.ErrOverflow: 500} {
		if got[e] < least {
			t.Errorf("the answer %d came %d times", e, got[e])
		}
	}
	if cheaper < 20000 || longer < 150 || shorter < 20000 || stayed < 1000 {
		t.Errorf("%d answers are cheaper, %d longer, %d shorter, %d stayed", cheaper, longer, shorter, stayed)
	}
	for count := range 17 {
		if lengths[count] < 2000 {
			t.Errorf("%d orders have %d numbers", lengths[count], count)
		}
	}
}

// On every window of three places and a plane, of the least depths.
func TestAllWindows(t *testing.T) {
	next := draw(3)
	for _, k := range []api.Kind{{Form: api.Image, Depth: 1}, {Form: api.Sound, Depth: 1}, {Form: api.Image, Depth: 2}, {Form: api.Sound, Depth: 2}} {
		low, size := kind.Low(k), kind.High(k)-kind.Low(k)+1
		for range 60 {
			var on []api.Window
			for i := range size * size * size * 4 {
				w := windowOf(k, uint(next(20)))
				w.P[0], w.P[1], w.P[2], w.C = low+i%size, low+i/size%size, low+i/size/size%size, i/size/size/size
				on = append(on, w)
			}
			s := subjectOf(t, sketch(next, k, 4+next(14), 3, 0), on...)
			for _, order := range [][]int{{1}, {2}, {3}, {4}, cycleAtRandom(next), cycleAtRandom(next)} {
				if _, e := s.ran(t, order...); e != api.OK {
					t.Errorf("Run(%s, %v): %d", shown(s.c), order, e)
				}
			}
			s.bested(t)
		}
	}
}

// As dear, and as long, as may be: behind the passes the code is no dearer, though some of them write more instructions.
func TestAtTheLimits(t *testing.T) {
	for _, k := range []api.Kind{image, {Form: api.Sound, Depth: 8}, sound} {
		for _, text := range []string{
			repeated("place 3; neg 0; num 4", "mod 1 2", 32) + strings.Repeat("; num 9", 5), repeated("place 3; neg 0; num 7", "mod 1 2", 32) + strings.Repeat("; num 9", 5), repeated("place 3; neg 0; num 2", "div @1 2", 49) + "; num 1",
			repeated("place 3; neg 0; num 10", "div 1 2", 49) + "; num 1", repeated("place 3; num 1", "add @1 @2", 5) + strings.Repeat("; mod 6 1", 31), repeated("place 3", "place 4", 199), repeated("place 3; num 3", "and 0 1", 198), repeated("num 5", "sub @1 0", 198),
		} {
			c := codedFor(k, text)
			if _, e := verify.Verify(c); e != api.OK || code.Cost(c) < 193 {
				t.Fatalf("%s: %d", shown(c), e)
			}
			s := subjectOf(t, c)
			for _, order := range append(orders(3), cycle(16, 0), cycle(16, 2)) {
				if _, e := s.ran(t, order...); e != api.OK {
					t.Errorf("Run(%s, %v): %d", shown(c), order, e)
				}
			}
			s.bested(t)
		}
	}
}

// P1

func TestOneThingChanged(t *testing.T) {
	next := draw(5)
	got := map[api.Errno]int{}
	for range 40 {
		k := api.Kind{Form: next(2), Depth: 1 + next(16)}
		c := sketch(next, k, 1+next(12), kind.Count(k), 0)
		order := cycleAtRandom(next)
		fields := []*int{&c.Out, &c.Kind.Form, &c.Kind.Depth}
		for i := range c.Insts {
			n := &c.Insts[i]
			fields = append(fields, &n.Op, &n.A, &n.B, &n.C, &n.K, &n.S)
		}
		for i := range order {
			fields = append(fields, &order[i])
		}
		for _, field := range fields {
			old := *field
			for _, to := range append([]int{old - 1, old + 1, -1, 0, 1, 2, 5, 6, 30, 31, 32, 43, 44, 62, 63, 255, 256, len(c.Insts) - 1, len(c.Insts)}, far...) {
				*field = to
				_, e := subjectOf(t, c).ran(t, order...)
				got[e]++
			}
			*field = old
		}
	}
	for e, least := range map[api.Errno]int{api.OK: 500, api.ErrInput: 2000, api.ErrCode: 2000, api.ErrAhead: 20, api.ErrDivZero: 20, api.ErrOverflow: 20} {
		if got[e] < least {
			t.Errorf("the answer %d came %d times", e, got[e])
		}
	}
}

// Codes and orders of any numbers: whatever they are, there is an answer.
func TestWild(t *testing.T) {
	next := draw(7)
	number := func() int {
		switch next(4) {
		case 0, 1:
			return 0
		case 2:
			return next(8) - 1
		}
		return append([]int{least, most, 1 << 31, 1 << 62, 255, 256}, far...)[next(6+len(far))]
	}
	for range 20000 {
		c := api.Code{Kind: api.Kind{Form: next(3), Depth: next(18)}, Out: number()}
		for range next(6) {
			c.Insts = append(c.Insts, api.Inst{Op: next(40) - 2, A: number(), B: number(), C: number(), K: number(), S: number()})
		}
		var order []int
		for range next(20) {
			order = append(order, 1+next(4))
		}
		if len(order) > 0 && next(2) == 0 {
			order[next(len(order))] = number()
		}
		s := subjectOf(t, c)
		s.ran(t, order...)
		s.bested(t)
	}
}

// memoryOrders are orders for the tests of memory: of none, of one each, of several.
var memoryOrders = append(orders(1), []int{2, 4}, []int{4, 4}, []int{3, 1, 2}, best, cycle(16, 1))

func TestAnswersAreNewMemory(t *testing.T) {
	for _, order := range memoryOrders {
		var last []api.Code
		for _, text := range taken {
			last = append(last, answersApart(t, text, func(c api.Code) (api.Code, api.Errno) { return passes.Run(c, order...) }))
		}
		// Answers to other codes are left alone too.
		for i, text := range taken {
			if want, _ := model(coded(text), order); !code.Same(last[i], want) {
				t.Errorf("Run(%s, %v): the answer has become %s", text, order, shown(last[i]))
			}
		}
	}
	for _, text := range taken {
		answersApart(t, text, passes.Best)
	}
}

// answersApart asks that what is written into an answer, or into the code, is seen nowhere else; it answers the third answer.
func answersApart(t *testing.T, text string, call func(api.Code) (api.Code, api.Errno)) api.Code {
	t.Helper()
	c, stands := roomy(coded(text))
	one, _ := call(c)
	two, _ := call(c)
	kept := api.Code{Kind: two.Kind, Insts: slices.Clone(two.Insts), Out: two.Out}
	if len(kept.Insts) == 0 || !code.Same(one, two) {
		t.Errorf("%s: %s, then %s", text, shown(one), shown(two))
	}
	room := one.Insts[:cap(one.Insts)]
	for i := range room {
		room[i] = api.Inst{Op: -99, A: -98}
	}
	if !code.Same(two, kept) {
		t.Errorf("%s: two answers share memory", text)
	}
	if !stands() {
		t.Errorf("%s: an answer shares memory with the code", text)
	}
	three, e := call(c)
	if e != api.OK || !code.Same(three, kept) {
		t.Errorf("%s: what was written into an answer is seen: %s, %d", text, shown(three), e)
	}
	for i := range c.Insts {
		c.Insts[i] = api.Inst{Op: -1, A: -1, K: -1}
	}
	if !code.Same(three, kept) {
		t.Errorf("%s: what was written into the code is seen", text)
	}
	return three
}

// What is written into an order behind the call is not seen.
func TestOrdersAreNotKept(t *testing.T) {
	for _, text := range taken {
		for _, was := range memoryOrders {
			order := slices.Clone(was)
			want, _ := passes.Run(coded(text), order...)
			for i := range order {
				order[i] = 99
			}
			if got, e := passes.Run(coded(text), was...); e != api.OK || !code.Same(got, want) {
				t.Errorf("Run(%s, %v): %s, then %s, %d", text, was, shown(want), shown(got), e)
			}
			if got, _ := model(coded(text), was); !code.Same(got, want) {
				t.Errorf("Run(%s, %v): the answer has become %s", text, was, shown(want))
			}
		}
	}
}

// What a call answers hangs on its arguments alone: not on calls ahead of it, refused ones among them, nor on the lists' room.
func TestOneCodeOneAnswer(t *testing.T) {
	next := draw(23)
	for i := range 100 {
		c := sketch(next, image, 1+next(12), 44+i%2*10, 10)
		order := cycleAtRandom(next)
		want, f := passes.Run(c, order...)
		wanted, g := passes.Best(c)
		for range 3 {
			for _, other := range ofAllSorts() {
				passes.Run(other, cycleAtRandom(next)...)
				passes.Run(other, 5)
				passes.Best(other)
			}
			d := c
			d.Insts = slices.Grow(slices.Clone(c.Insts), 50)
			if got, e := passes.Run(d, slices.Grow(slices.Clone(order), 9)...); e != f || !code.Same(got, want) {
				t.Errorf("Run(%s, %v): %s, %d, not %s, %d", shown(c), order, shown(got), e, shown(want), f)
			}
			if got, e := passes.Best(d); e != g || !code.Same(got, wanted) {
				t.Errorf("Best(%s): %s, %d, not %s, %d", shown(c), shown(got), e, shown(wanted), g)
			}
		}
	}
}

// The tests' own windows, operators and orders are those of the layers below.
func TestTheTestsModel(t *testing.T) {
	kinds(func(k api.Kind) {
		for _, w := range windowsOf(k, 50) {
			if kind.Fits(k, w) != api.OK {
				t.Errorf("%v: %v doesn't fit", k, w)
			}
		}
	})
	for op, name := range names {
		want := -1
		if slices.Contains(all, name) {
			want = readsOf(name)
		}
		if arith.Arity(op) != want {
			t.Errorf("%s reads %d registers", name, arith.Arity(op))
		}
	}
	if len(all) != 32 || names[api.OpMulS] != "muls" || names[api.OpAdd] != "add" || names[api.OpClamp] != "clamp" || names[api.OpPlace] != "place" {
		t.Errorf("the operators are %v", names)
	}
	if list := orders(2); fmt.Sprint(list) != "[[] [1] [2] [3] [4] [1 1] [1 2] [1 3] [1 4] [2 1] [2 2] [2 3] [2 4] [3 1] [3 2] [3 3] [3 4] [4 1] [4 2] [4 3] [4 4]]" {
		t.Errorf("the orders are %v", list)
	}
	for _, text := range taken {
		if _, e := verify.Verify(coded(text)); e != api.OK {
			t.Errorf("%s: %d", text, e)
		}
	}
}
