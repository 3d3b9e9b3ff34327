package parse_test

import (
	"fmt"
	"maps"
	"slices"
	"strings"
	"testing"
	"unsafe"

	"damask/api"
	"damask/lex"
	"damask/parse"
)

// marks are the marks of operators of two, in one order.
var marks = slices.Sorted(maps.Keys(marked))

// programs are ordinary ones.
var programs = []string{
	"1", "x", "p(-1,0)", "q(1,-1)", "p(-1,0)+1", "(p(-1,0)+p(0,-1))/2", "med(p(-1,0),p(0,-1),p(-1,0)+p(0,-1)-p(-1,-1))",
	"let a=p(-1,0);let b=p(0,-1);let c0=p(-1,-1);c0>=max(a,b)?min(a,b):c0<=min(a,b)?max(a,b):a+b-c0",
	"1/(abs(p(-1,0)-p(0,-1))+1)", "(x&255)*(x&255)", "2*p(-1)-p(-2)", "clamp(2*p(-1)-p(-2),lo,hi)", "let a=hi;a*a", "x?1:y?2:3",
	"c?q(1,0,0)+p(-1,0)-q(1,-1,0):mid", "let d=abs(p(-1,0)-p(0,-1));d<2?0:d<8?1:d<32?2:3", "-x", "--1", "sgn(-x)<<3>>1", "1<<2<3|4&5^6",
	"let a=1;let b=a;let c2=a+b;(c2%3==0)!=(a>b)", "min(x,max(y,-c))", "let unused=q(3,-2147483647,2147483647);2147483647",
}

// gaps are texts that may stand between any two tokens.
var gaps = []string{" ", "\t", "\n", "  \n\t", "#\n", "# a remark: let (1\n", "\n# one\n#two\n "}

// draw answers numbers below n, by a walk that a seed sets.
func draw(seed uint) func(n int) int {
	return func(n int) int {
		seed = seed*6364136223846793005 + 1442695040888963407
		return int(seed>>33) % n
	}
}

// words answers a text's tokens as texts.
func words(t *testing.T, text string) []string {
	t.Helper()
	tokens, e := lex.Tokens(text)
	if e != api.OK {
		t.Fatalf("Tokens(%q): %d", text, e)
	}
	var list []string
	for _, x := range tokens {
		list = append(list, x.Text)
	}
	return list
}

// The chapter's examples

func TestExamples(t *testing.T) {
	for text, want := range map[string]api.Tree{
		"p(-1,0)+1": {Nodes: []api.Node{{Op: api.OpPlace, At: api.Place{Coords: 2, X: -1}}, {Op: api.OpNum, K: 1}, {Op: api.OpAdd, A: 0, B: 1}}, Root: 2},
		"let a=hi;a*a": {
			Names: []string{"a"}, Binds: []int{0},
			Nodes: []api.Node{{Op: api.OpIn, K: api.InHi}, {Op: api.OpUse}, {Op: api.OpUse}, {Op: api.OpMul, A: 1, B: 2}}, Root: 3,
		},
		"1-2-3":     alone(of(api.OpSub, of(api.OpSub, num(1), num(2)), num(3))),
		"1+2*3":     alone(of(api.OpAdd, num(1), of(api.OpMul, num(2), num(3)))),
		"x?1:y?2:3": alone(of(api.OpSel, in(api.InX), num(1), of(api.OpSel, in(api.InY), num(2), num(3)))),
	} {
		holds(t, text, want)
		modelled(t, text)
	}
	for texts, same := range map[string]string{"1-2-3": "(1-2)-3", "1+2*3": "1+(2*3)", "x?1:y?2:3": "x?1:(y?2:3)"} {
		holds(t, texts, treeOf(t, same))
	}
	for _, text := range []string{
		"", "1 2", "(1", "1<2<3", "let a=1;let a=2;a", "let x=1;x", "let a=a;1", "b", "p()", "p(x)", "p(1,2,3)", "q(0,1)", "q(1)", "abs(1,2)", "1?2", "1;", "+1",
	} {
		refused(t, text)
		modelled(t, text)
	}
}

// 7.2: the tree

func TestOrderOfNodes(t *testing.T) {
	text := "let a=clamp(-x,lo,hi);let b_2=a<3?p(-4):q(5,-6,7);b_2-a*8"
	want := api.Tree{Names: []string{"a", "b_2"}, Binds: []int{4, 10}, Root: 15, Nodes: []api.Node{
		{Op: api.OpIn, K: api.InX},
		{Op: api.OpNeg, A: 0},
		{Op: api.OpIn, K: api.InLo},
		{Op: api.OpIn, K: api.InHi},
		{Op: api.OpClamp, A: 1, B: 2, C: 3},
		{Op: api.OpUse, K: 0},
		{Op: api.OpNum, K: 3},
		{Op: api.OpLt, A: 5, B: 6},
		{Op: api.OpPlace, At: api.Place{Coords: 1, X: -4}},
		{Op: api.OpPlace, At: api.Place{Back: 5, Coords: 2, X: -6, Y: 7}},
		{Op: api.OpSel, A: 7, B: 8, C: 9},
		{Op: api.OpUse, K: 1},
		{Op: api.OpUse, K: 0},
		{Op: api.OpNum, K: 8},
		{Op: api.OpMul, A: 12, B: 13},
		{Op: api.OpSub, A: 11, B: 14},
	}}
	holds(t, text, want)
	modelled(t, text)
}

func TestPrograms(t *testing.T) {
	for _, text := range programs {
		treeOf(t, text)
		modelled(t, text)
	}
}

func TestInputsAndNumbers(t *testing.T) {
	for name, k := range map[string]int{"x": api.InX, "y": api.InY, "c": api.InC, "lo": api.InLo, "hi": api.InHi, "mid": api.InMid} {
		holds(t, name, alone(in(k)))
		holds(t, "-"+name, alone(of(api.OpNeg, in(k))))
		holds(t, "1+"+name, alone(of(api.OpAdd, num(1), in(k))))
		holds(t, "let a="+name+";"+name, laid([]string{"a"}, []expr{in(k)}, in(k)))
	}
	for _, k := range []int{0, 1, 7, 10, 255, 65536, 2147483646, 2147483647} {
		holds(t, fmt.Sprint(k), alone(num(k)))
		holds(t, fmt.Sprint("-", k), alone(of(api.OpNeg, num(k))))
	}
}

// shape is a text with holes for parts, and what it is made of them.
type shape struct {
	text string
	make func(parts []expr) expr
}

// shapes answers every operator, call, input and place, with @ for each part.
func shapes() []shape {
	leaf := func(e expr) func([]expr) expr { return func([]expr) expr { return e } }
	node := func(op int) func([]expr) expr { return func(parts []expr) expr { return of(op, parts...) } }
	all := []shape{{"9", leaf(num(9))}, {"p(-1,0)", leaf(place2(0, -1, 0))}, {"q(2,-3)", leaf(place(2, -3))}, {"-@", node(api.OpNeg)}, {"@?@:@", node(api.OpSel)}}
	for k, name := range inputs {
		all = append(all, shape{name, leaf(in(k))})
	}
	for _, mark := range marks {
		all = append(all, shape{"@" + mark + "@", node(marked[mark].op)})
	}
	for _, name := range calls {
		c := calledOps[name]
		all = append(all, shape{name + "(@" + strings.Repeat(",@", c.parts-1) + ")", node(c.op)})
	}
	return all
}

// filled answers a shape's text and expression, with one thing in each of its holes.
func (s shape) filled(text string, e expr) (string, expr) {
	parts := slices.Repeat([]expr{e}, strings.Count(s.text, "@"))
	return strings.ReplaceAll(s.text, "@", text), s.make(parts)
}

// Each operator, call, input and place alone, and within each other one, in brackets.
func TestShapesWithinShapes(t *testing.T) {
	for _, outer := range shapes() {
		text, want := outer.filled("7", num(7))
		holds(t, text, alone(want))
		for _, inner := range shapes() {
			part, made := inner.filled("7", num(7))
			text, want := outer.filled("("+part+")", made)
			holds(t, text, alone(want))
			// Without the brackets it may be another tree, or none.
			loose, _ := outer.filled(part, made)
			modelled(t, loose)
			deeper, _ := inner.filled(text, want)
			modelled(t, deeper)
		}
	}
}

// The grammar's levels

func TestPairsOfLevels(t *testing.T) {
	for _, a := range marks {
		for _, b := range marks {
			first, second := marked[a], marked[b]
			left := alone(of(second.op, of(first.op, num(1), num(2)), num(3)))
			right := alone(of(first.op, num(1), of(second.op, num(2), num(3))))
			holds(t, "(1"+a+"2)"+b+"3", left)
			holds(t, "1"+a+"(2"+b+"3)", right)
			bare := "1" + a + "2" + b + "3"
			switch {
			case first.level == compareLevel && second.level == compareLevel:
				refused(t, bare)
				refused(t, "("+bare+")")
			case first.level < second.level:
				holds(t, bare, right)
			default:
				holds(t, bare, left)
			}
		}
	}
}

func TestMinusAndChoiceBesideEachOperator(t *testing.T) {
	neg := func(e expr) expr { return of(api.OpNeg, e) }
	sel := func(a, b, c expr) expr { return of(api.OpSel, a, b, c) }
	for _, m := range marks {
		op := marked[m].op
		holds(t, "-1"+m+"2", alone(of(op, neg(num(1)), num(2))))
		holds(t, "-(1"+m+"2)", alone(neg(of(op, num(1), num(2)))))
		holds(t, "1"+m+"-2", alone(of(op, num(1), neg(num(2)))))
		holds(t, "1"+m+"--2", alone(of(op, num(1), neg(neg(num(2))))))
		holds(t, "1"+m+"2?3:4", alone(sel(of(op, num(1), num(2)), num(3), num(4))))
		holds(t, "1"+m+"(2?3:4)", alone(of(op, num(1), sel(num(2), num(3), num(4)))))
		holds(t, "1?2"+m+"3:4", alone(sel(num(1), of(op, num(2), num(3)), num(4))))
		holds(t, "1?2:3"+m+"4", alone(sel(num(1), num(2), of(op, num(3), num(4)))))
		holds(t, "(1?2:3)"+m+"4", alone(of(op, sel(num(1), num(2), num(3)), num(4))))
		refused(t, m)
		refused(t, "1"+m)
		refused(t, "1"+m+m+"*2")
		refused(t, "1"+m+"?2:3")
		refused(t, "1?2"+m+":3")
		if m != "-" {
			refused(t, m+"1")
			refused(t, "1"+m+" "+m+"2")
			refused(t, "-"+m+"1")
		}
	}
	holds(t, "-1?-2:-3", alone(sel(neg(num(1)), neg(num(2)), neg(num(3)))))
	holds(t, "-(1?2:3)", alone(neg(sel(num(1), num(2), num(3)))))
}

func TestRowsOfOneLevel(t *testing.T) {
	for _, a := range marks {
		for _, b := range marks {
			for _, c := range marks {
				if marked[a].level != marked[b].level || marked[b].level != marked[c].level {
					continue
				}
				row := "1" + a + "2" + b + "3" + c + "4"
				if marked[a].level == compareLevel {
					refused(t, row)
					continue
				}
				want := of(marked[c].op, of(marked[b].op, of(marked[a].op, num(1), num(2)), num(3)), num(4))
				holds(t, row, alone(want))
			}
		}
	}
	compare := func(op int, a, b expr) expr { return of(op, a, b) }
	holds(t, "(1<2)<3", alone(compare(api.OpLt, compare(api.OpLt, num(1), num(2)), num(3))))
	holds(t, "1<(2>=3)", alone(compare(api.OpLt, num(1), compare(api.OpGe, num(2), num(3)))))
	holds(t, "1<2&3==4", alone(of(api.OpAnd, compare(api.OpLt, num(1), num(2)), compare(api.OpEq, num(3), num(4)))))
	holds(t, "1<2?3<4:5<6", alone(of(api.OpSel, compare(api.OpLt, num(1), num(2)), compare(api.OpLt, num(3), num(4)), compare(api.OpLt, num(5), num(6)))))
	for _, text := range []string{"1<2<3&4", "1==2==3", "1!=2<=3", "abs(1<2<3)", "(1<2<3)", "1<2+3<4", "let a=1<2<3;a", "x?1<2<3:4", "1<2|3<4<5"} {
		refused(t, text)
	}
}

func TestChoicesWithinChoices(t *testing.T) {
	sel := func(a, b, c expr) expr { return of(api.OpSel, a, b, c) }
	inner := sel(num(1), num(2), num(3))
	for text, want := range map[string]expr{
		"1?2:3":                 inner,
		"(1?2:3)?4:5":           sel(inner, num(4), num(5)),
		"4?1?2:3:5":             sel(num(4), inner, num(5)),
		"4?(1?2:3):5":           sel(num(4), inner, num(5)),
		"4?5:1?2:3":             sel(num(4), num(5), inner),
		"4?5:(1?2:3)":           sel(num(4), num(5), inner),
		"4?1?2:3:1?2:3":         sel(num(4), inner, inner),
		"(1?2:3)?1?2:3:1?2:3":   sel(inner, inner, inner),
		"4?5?1?2:3:6:7":         sel(num(4), sel(num(5), inner, num(6)), num(7)),
		"4?5:6?7:1?2:3":         sel(num(4), num(5), sel(num(6), num(7), inner)),
		"min(1?2:3,4)":          of(api.OpMin, inner, num(4)),
		"clamp(4,1?2:3,5?6:7)":  of(api.OpClamp, num(4), inner, sel(num(5), num(6), num(7))),
		"abs(1?2:3)?(1?2:3):-4": sel(of(api.OpAbs, inner), inner, of(api.OpNeg, num(4))),
	} {
		holds(t, text, alone(want))
		modelled(t, text)
	}
	for _, text := range []string{
		"1?2", "1?2:", "1?:3", "?2:3", "1:2", "1?2:3:4", "1?2?3:4", "1?2:3?4", "1?2;3", "1?2,3", "(1?2):3", "1?(2:3)", "(1?2:3", "1?2:3)", "1??2:3:4", "1?2::3", "-?1:2", "1?-:2", "let a=1?2;a",
	} {
		refused(t, text)
		modelled(t, text)
	}
	holds(t, "let a=1?2:3;a?a:a", laid([]string{"a"}, []expr{inner}, sel(use(0), use(0), use(0))))
}

func TestMinuses(t *testing.T) {
	for text, what := range map[string]expr{
		"1": num(1), "0": num(0), "x": in(api.InX), "mid": in(api.InMid), "(1)": num(1), "(1+2)": of(api.OpAdd, num(1), num(2)), "(x?1:2)": of(api.OpSel, in(0), num(1), num(2)),
		"abs(1)": of(api.OpAbs, num(1)), "max(1,2)": of(api.OpMax, num(1), num(2)), "med(1,2,3)": of(api.OpMed, num(1), num(2), num(3)), "p(-1)": place(0, -1), "q(1,-1,-1)": place2(1, -1, -1), "(-1)": of(api.OpNeg, num(1)),
	} {
		for _, count := range []int{1, 2, 3, 10, 100} {
			want := what
			for range count {
				want = of(api.OpNeg, want)
			}
			holds(t, strings.Repeat("-", count)+text, alone(want))
			holds(t, strings.Repeat("- ", count)+text, alone(want))
			holds(t, strings.Repeat("-(", count)+text+strings.Repeat(")", count), alone(want))
			holds(t, "3-"+strings.Repeat("-", count)+text, alone(of(api.OpSub, num(3), want)))
		}
		refused(t, "+"+text)
		refused(t, "-+"+text)
	}
	holds(t, "let a=-1;-a", laid([]string{"a"}, []expr{of(api.OpNeg, num(1))}, of(api.OpNeg, use(0))))
	for _, text := range []string{"-", "--", "1-", "1--", "(-)", "-)", "-,1", "abs(-)", "1 -- ", "let a=-;1"} {
		refused(t, text)
	}
}

// Places and calls

func TestPlaces(t *testing.T) {
	offsets := map[string]int{"0": 0, "-0": 0, "1": 1, "-1": -1, "7": 7, "- 16": -16, "2147483647": 2147483647, "-2147483647": -2147483647}
	for a, x := range offsets {
		holds(t, "p("+a+")", alone(place(0, x)))
		holds(t, "q(1,"+a+")", alone(place(1, x)))
		holds(t, "q(2147483647,"+a+")", alone(place(2147483647, x)))
		refused(t, "q(0,"+a+")")
		refused(t, "q(-1,"+a+")")
		refused(t, "p(-"+a+"-)")
		for b, y := range offsets {
			holds(t, "p("+a+","+b+")", alone(place2(0, x, y)))
			holds(t, "q(3,"+a+","+b+")", alone(place2(3, x, y)))
			holds(t, "p("+a+","+b+")-p("+b+")", alone(of(api.OpSub, place2(0, x, y), place(0, y))))
			refused(t, "p("+a+","+b+",0)")
			refused(t, "q(1,"+a+","+b+",0)")
			refused(t, "q(0,"+a+","+b+")")
			refused(t, "q(-0,"+a+","+b+")")
			refused(t, "p("+a+" "+b+"1)")
		}
	}
	for _, text := range []string{
		"p", "q", "p()", "q()", "p(", "q(", "p(1", "q(1", "q(1)", "q(1,", "q(1,)", "q(,1)", "p(,1)", "p(1,)", "p(,)", "p(1,,2)", "p(1,2,)", "q(1,2,3,)", "p 1", "p-1", "p(x)", "p(1,y)", "q(x,1)", "q(1,c)", "q(c,1)",
		"p(--1)", "p(1,--1)", "q(1,--1)", "q(--1,1)", "p((1))", "p((-1),0)", "q((1),1)", "q(1,(1))", "p(1+1)", "p(1-1)", "q(1+1,0)", "p(+1)", "p(-)", "p(1,-)", "p(abs(1))", "p(p(1))", "p(1)(2)", "(p)(1)", "(p(1)", "p(1))",
		"p[1]", "p;1", "p(1;2)", "p(1:2)", "p(2147483648)", "p(-2147483648)", "q(2147483648,1)", "p(01)", "p(1,07)", "q(00,1)", "let a=1;p(a)", "let a=1;q(a,1)", "p+1", "q*2", "1+p", "p(-1,0", "p(-1 0)",
	} {
		refused(t, text)
		modelled(t, text)
	}
}

func TestCalls(t *testing.T) {
	for _, name := range calls {
		c := calledOps[name]
		var parts []expr
		var texts []string
		for count := range 6 {
			text := name + "(" + strings.Join(texts, ",") + ")"
			if count == c.parts {
				holds(t, text, alone(of(c.op, parts...)))
				holds(t, "-"+text+"*2", alone(of(api.OpMul, of(api.OpNeg, of(c.op, parts...)), num(2))))
			} else {
				refused(t, text)
			}
			modelled(t, text)
			refused(t, strings.TrimSuffix(text, ")")+",)")
			refused(t, name+"(,"+strings.Join(texts, ",")+")")
			refused(t, name+" "+strings.Join(texts, ","))
			refused(t, name+"("+strings.Join(texts, ";")+";1)")
			refused(t, name+"("+strings.Join(append([]string{"0"}, texts...), ",")+" 1)")
			refused(t, strings.TrimSuffix(text, ")"))
			refused(t, text+")")
			texts, parts = append(texts, fmt.Sprint(count)), append(parts, num(count))
		}
		for _, text := range []string{"@", "@(", "@)", "@+1", "1+@", "@@(1)", "(@)(1)", "@ let", "@(@)", "@(p)", "@=1", "let @=1;1", "@-1", "abs(@)"} {
			refused(t, strings.ReplaceAll(text, "@", name))
		}
	}
	holds(t, "clamp(1+2,x?3:4,-5)", alone(of(api.OpClamp, of(api.OpAdd, num(1), num(2)), of(api.OpSel, in(0), num(3), num(4)), of(api.OpNeg, num(5)))))
	holds(t, "min(max(1,2),max(3,4))", alone(of(api.OpMin, of(api.OpMax, num(1), num(2)), of(api.OpMax, num(3), num(4)))))
	holds(t, "abs((1))", alone(of(api.OpAbs, num(1))))
	for _, text := range []string{"x(1)", "x()", "mid(1)", "let(1)", "f(1)", "1(2)", "(1)(2)", "let f=1;f(2)", "let f=1;f()", "abs(1)(2)", "()", "(1,2)", "(,)", "1,2", "min((1,2))"} {
		refused(t, text)
		modelled(t, text)
	}
}

// 7.1: names

func TestReserved(t *testing.T) {
	if len(reservedWords) != 15 {
		t.Fatalf("%d reserved words", len(reservedWords))
	}
	for _, name := range reservedWords {
		if !parse.Reserved(name) {
			t.Errorf("%q isn't reserved", name)
		}
		refused(t, "let "+name+"=1;1")
		refused(t, "let "+name+"=1;"+name)
		refused(t, "let a=2;let "+name+"=1;a")
		refused(t, "let "+name)
		refused(t, "let "+name+"="+name+";"+name)
		if slices.Contains(inputs, name) {
			continue
		}
		refused(t, name)
		refused(t, "1+"+name)
		refused(t, "("+name+")")
		refused(t, "let a="+name+";1")
	}
	others := []string{"", "a", "b", "z", "w", "in", "le", "lett", "let_", "let1", "p1", "p_", "pp", "qq", "xx", "x1", "x_", "cc", "low", "l", "h", "high", "middle", "mi", "m", "ab", "abss", "abs1", "sg", "sgn_", "minn", "maxx", "clam", "clamps", "me", "median", "sel", "neg", "num", "place", "use", "if", "else", "or", "and", "xor", "mod"}
	for _, name := range others {
		if parse.Reserved(name) {
			t.Errorf("%q is reserved", name)
		}
		if name != "" {
			holds(t, "let "+name+"=1;"+name, laid([]string{name}, []expr{num(1)}, use(0)))
		}
	}
	for _, name := range []string{"Let", "LET", "X", "P", " x", "x ", "x\n", "let ", "let a", "lo,hi", "0", "1", "+", "(", "\x00", "x\x00", "\xff", "abs(", "é", strings.Repeat("x", 17), strings.Repeat("abs", 1<<16)} {
		if parse.Reserved(name) {
			t.Errorf("%q is reserved", name)
		}
	}
	for _, name := range reservedWords {
		for i := range name {
			if cut := name[:i]; parse.Reserved(cut) != slices.Contains(reservedWords, cut) {
				t.Errorf("Reserved(%q) is %v", cut, parse.Reserved(cut))
			}
		}
		if parse.Reserved(name+"a") || parse.Reserved("_"+name) {
			t.Errorf("something about %q is reserved", name)
		}
	}
}

func TestNames(t *testing.T) {
	long := "abcdefghijklmn_9"
	holds(t, "let "+long+"=1;"+long, laid([]string{long}, []expr{num(1)}, use(0)))
	holds(t, "let b=1;let a=2;a-b", laid([]string{"b", "a"}, []expr{num(1), num(2)}, of(api.OpSub, use(1), use(0))))
	holds(t, "let a=1;let b=a;let d=b+a;d*b*a", laid([]string{"a", "b", "d"}, []expr{num(1), use(0), of(api.OpAdd, use(1), use(0))}, of(api.OpMul, of(api.OpMul, use(2), use(1)), use(0))))
	holds(t, "let a=1;2", laid([]string{"a"}, []expr{num(1)}, num(2)))
	holds(t, "let a1=1;let a=2;let a_=3;a1+a", laid([]string{"a1", "a", "a_"}, []expr{num(1), num(2), num(3)}, of(api.OpAdd, use(0), use(1))))
	for _, text := range []string{
		"a", "a+1", "let a=1;b", "let a=a;a", "let a=1+a;a", "let a=b;let b=1;a", "let a=1;let b=b;a", "let a=1;let b=d;let d=2;b", "let a=1;let a=2;a", "let a=1;let a=a;a", "let a=1;let b=2;let a=3;b", "let a=1;let a=1;1",
		"let a=(let b=1;b);a", "(let a=1;a)", "a;let a=1", "1;let a=1;a", "a let a=1;", "let a=1;a;", "let a=1;", "let a=1", "let a=", "let a", "let", "let;", "let =1;1", "let a 1;1", "let a=1 2", "let a=1,2", "let a==1;a", "let a=;1",
		"let a=1;;1", "let 1=1;1", "let a+b=1;1", "let a,b=1;1", "let (a)=1;1", "let -a=1;1", "let a=1;let", "let let a=1;a", "let a=1 let b=2;a", "let a=let b=1;b", "a=1;a", "a=1", "1=1", "x=1;x", "let a=1;b=2;a", "let a=1:2", "leta=1;a", "let a=1;aa", "let a=1;a a",
		"let a=1;a=2", "let abcdefghijklmnopq=1;1", "let A=1;1", "let _=1;1", "1 let a=1;a", "let a=1?2:3", "let a=b;1", "let a=1;x?a:b",
	} {
		refused(t, text)
		modelled(t, text)
	}
}

// Texts that are none

func TestTextsThatLexRefuses(t *testing.T) {
	for _, text := range []string{"A", "1+A", "1!2", "!", "07", "1+07", "2147483648", "abcdefghijklmnopq", "1\r", "1+_", "é", "\x00", "\xff", "1.5", "'1'", "{1}", "1;\x80"} {
		if _, e := lex.Tokens(text); e != api.ErrSyntax {
			t.Fatalf("Tokens(%q): %d", text, e)
		}
		refused(t, text)
	}
	for _, length := range []int{1025, 2048, 1 << 16, 1 << 20} {
		refused(t, "1"+strings.Repeat(" ", length-1))
		refused(t, strings.Repeat("-", length-1)+"1")
		refused(t, strings.Repeat("(", length))
	}
}

func TestNoTokens(t *testing.T) {
	for _, text := range []string{"", " ", "\n", "\t\t", "#", "# 1", "#1\n", " \n#x\n "} {
		refused(t, text)
	}
}

// Every beginning of these is none of a program.
func TestEndsTooEarly(t *testing.T) {
	for _, text := range []string{
		"(1)", "((x))", "(1+2)", "(x?1:2)", "abs(1)", "min(1,2)", "clamp(1,2,3)", "med(p(-1,0),q(1,-1),-x)", "p(1)", "p(-1)", "p(-1,-2)", "q(1,2)", "q(1,-2,-3)", "let a=1;a", "let a=p(-1,0);let b=abs(a);b", "-1", "---x", "-(1)", "let a=x?y:c;-(a)",
	} {
		treeOf(t, text)
		list := words(t, text)
		for end := range list {
			refused(t, strings.Join(list[:end], " "))
		}
	}
}

// One token less, more or other at each place, and two of them in each other's place.
func TestOneTokenChanged(t *testing.T) {
	others := strings.Fields("| ^ & < << - * let p q abs min clamp x 0 1 a d ( ) , ; = ? :")
	for _, text := range programs {
		list := words(t, text)
		for at := range len(list) + 1 {
			modelled(t, strings.Join(list[:at], " "))
			modelled(t, strings.Join(list[at:], " "))
			for _, w := range others {
				modelled(t, strings.Join(slices.Insert(slices.Clone(list), at, w), " "))
			}
			if at == len(list) {
				break
			}
			modelled(t, strings.Join(slices.Delete(slices.Clone(list), at, at+1), " "))
			for _, w := range others {
				modelled(t, strings.Join(slices.Replace(slices.Clone(list), at, at+1, w), " "))
			}
			swapped := slices.Clone(list)
			swapped[0], swapped[at] = swapped[at], swapped[0]
			modelled(t, strings.Join(swapped, " "))
		}
	}
}

func TestATokenMoreBehind(t *testing.T) {
	for _, text := range programs {
		for _, more := range []string{"1", "x", "a", "let", "p", "abs", "(", ")", ",", ";", "=", "?", ":", "<", "let a=1;", "(1)", "p(1)", "1+1"} {
			refused(t, text+" "+more)
		}
	}
}

// All rows of so many words of some alphabets.
func TestShortTexts(t *testing.T) {
	for alphabet, length := range map[string]int{
		"1 - + * ( )":                      5,
		"1 - ( )":                          7,
		"1 < & ( )":                        6,
		"1 ? : ( )":                        6,
		"let a = ; 1":                      6,
		"p q ( ) , 1 0 -":                  5,
		"p ( ) , 1":                        6,
		"abs min ( ) , 1":                  5,
		"min ( ) , 1":                      6,
		"let a = ; 1 x p ( ) , - + ? : <=": 4,
		"| ^ & 1 == >> %":                  5,
	} {
		every(strings.Fields(alphabet), length, func(list []string) { modelled(t, strings.Join(list, " ")) })
	}
}

// every hands all rows of up to so many words to a function.
func every(alphabet []string, length int, do func([]string)) {
	var longer func(list []string)
	longer = func(list []string) {
		do(list)
		if len(list) == length {
			return
		}
		for _, w := range alphabet {
			longer(append(slices.Clip(list), w))
		}
	}
	longer(nil)
}

// Texts as long and as deep as they go

func TestNestedAsDeepAsTheyGo(t *testing.T) {
	nest := func(open, inside, shut string, wrap func(expr) expr, e expr) {
		t.Helper()
		times := (api.MaxText - len(inside)) / (len(open) + len(shut))
		for range times {
			e = wrap(e)
		}
		text := strings.Repeat(open, times) + inside + strings.Repeat(shut, times)
		room := strings.Repeat("\n", api.MaxText-len(text))
		holds(t, text, alone(e))
		holds(t, text+room, alone(e))
		refused(t, text+room+"\n")
		refused(t, strings.Repeat(open, times))
		refused(t, strings.Repeat(open, times)+strings.Repeat(shut, times))
		refused(t, strings.Repeat(open, times)+inside+strings.Repeat(shut, times-1)+";")
		if open != "" && shut != "" {
			refused(t, strings.Repeat(open, times)+inside+strings.Repeat(shut, times-1))
			refused(t, strings.Repeat(open, times-1)+inside+strings.Repeat(shut, times))
		}
	}
	same := func(e expr) expr { return e }
	op := func(op int, around ...expr) func(expr) expr {
		return func(e expr) expr { return of(op, slices.Concat([]expr{e}, around)...) }
	}
	behind := func(op int, ahead ...expr) func(expr) expr {
		return func(e expr) expr { return of(op, slices.Concat(ahead, []expr{e})...) }
	}
	nest("(", "1", ")", same, num(1))
	nest("-", "1", "", op(api.OpNeg), num(1))
	nest("-(", "1", ")", op(api.OpNeg), num(1))
	nest("abs(", "1", ")", op(api.OpAbs), num(1))
	nest("min(", "1", ",x)", op(api.OpMin, in(0)), num(1))
	nest("max(x,", "1", ")", behind(api.OpMax, in(0)), num(1))
	nest("clamp(1,", "1", ",1)", func(e expr) expr { return of(api.OpClamp, num(1), e, num(1)) }, num(1))
	nest("med(x,y,", "1", ")", behind(api.OpMed, in(0), in(1)), num(1))
	nest("1?1:", "1", "", behind(api.OpSel, num(1), num(1)), num(1))
	nest("1?", "1", ":1", func(e expr) expr { return of(api.OpSel, num(1), e, num(1)) }, num(1))
	nest("(", "1", "?1:1)", op(api.OpSel, num(1), num(1)), num(1))
	nest("", "1", "+1", op(api.OpAdd, num(1)), num(1))
	nest("", "1", "%x", op(api.OpMod, in(0)), num(1))
	nest("1+(", "1", ")", behind(api.OpAdd, num(1)), num(1))
	nest("(1)<(", "1", ")", behind(api.OpLt, num(1)), num(1))
}

func TestLetsAsManyAsTheyGo(t *testing.T) {
	var text strings.Builder
	var names []string
	var is []expr
	for i := 0; text.Len()+len("let aa=a0;")+1 <= api.MaxText; i++ {
		name := fmt.Sprintf("%c%c", 'a'+i/10, '0'+i%10)
		what := use(i - 1)
		if i == 0 {
			what = num(1)
			fmt.Fprintf(&text, "let %s=1;", name)
		} else {
			fmt.Fprintf(&text, "let %s=%s;", name, names[i-1])
		}
		names, is = append(names, name), append(is, what)
	}
	if len(names) < 100 {
		t.Fatalf("%d names", len(names))
	}
	last := len(names) - 1
	holds(t, text.String()+"1", laid(names, is, num(1)))
	tail := names[last]
	if text.Len()+len(tail) <= api.MaxText {
		holds(t, text.String()+tail, laid(names, is, use(last)))
	}
	refused(t, text.String())
	refused(t, strings.Repeat("let ", 256))
	refused(t, strings.Repeat("let a=", 170)+"1;1")
	refused(t, strings.Repeat("let a=1;", 127)+"a")
}

// 7.4

// sketch answers an expression of at most so many levels, in which so many names may be used.
func sketch(next func(int) int, deep, names int) expr {
	if deep == 0 || next(5) == 0 {
		switch next(5) {
		case 0:
			return in(next(6))
		case 1:
			return place(next(3), next(9)-4)
		case 2:
			return place2(next(3), next(9)-4, next(9)-4)
		case 3:
			if names > 0 {
				return use(next(names))
			}
		}
		return num(next(100))
	}
	all := slices.Sorted(maps.Keys(trees))
	op := all[4+next(len(all)-4)]
	e := expr{op: op}
	for range trees[op] {
		e.parts = append(e.parts, sketch(next, deep-1, names))
	}
	return e
}

// written answers a text of an expression, with brackets about every part that isn't a primary, and about others at will.
func written(e expr, names []string, more func() bool) string {
	text := bare(e, names, more)
	if more() {
		return "(" + text + ")"
	}
	return text
}

func bare(e expr, names []string, more func() bool) string {
	var parts []string
	for _, p := range e.parts {
		parts = append(parts, written(p, names, more))
	}
	for name, c := range calledOps {
		if c.op == e.op {
			return name + "(" + strings.Join(parts, ",") + ")"
		}
	}
	for i, p := range parts {
		if len(e.parts[i].parts) > 0 {
			parts[i] = "(" + p + ")"
		}
	}
	for mark, m := range marked {
		if m.op == e.op {
			return parts[0] + mark + parts[1]
		}
	}
	switch e.op {
	case api.OpNum:
		return fmt.Sprint(e.k)
	case api.OpIn:
		return inputs[e.k]
	case api.OpUse:
		return names[e.k]
	case api.OpNeg:
		return "-" + parts[0]
	case api.OpSel:
		return parts[0] + "?" + parts[1] + ":" + parts[2]
	}
	text := fmt.Sprint(e.at.X)
	if e.at.Coords == 2 {
		text += fmt.Sprint(",", e.at.Y)
	}
	if e.at.Back > 0 {
		return fmt.Sprintf("q(%d,%s)", e.at.Back, text)
	}
	return "p(" + text + ")"
}

func TestBracketsChangeNothing(t *testing.T) {
	never, always := func() bool { return false }, func() bool { return true }
	long := 0
	for seed := range uint(4000) {
		next := draw(seed)
		var names []string
		var is []expr
		var heads [3]string
		mores := []func() bool{never, always, func() bool { return next(3) == 0 }}
		for i := range next(3) {
			is = append(is, sketch(next, next(3), i))
			names = append(names, string(rune('r'+i)))
			for j, more := range mores {
				heads[j] += "let " + names[i] + "=" + written(is[i], names, more) + ";"
			}
		}
		last := sketch(next, 1+next(4), len(names))
		for j, more := range mores {
			text := heads[j] + written(last, names, more)
			if len(text) > api.MaxText {
				long++
				refused(t, text)
				continue
			}
			holds(t, text, laid(names, is, last))
		}
	}
	if long > 1000 {
		t.Errorf("%d texts were too long", long)
	}
}

func TestBracketsAboutWholeChoices(t *testing.T) {
	for text, bracketed := range map[string]string{
		"1":                          "((1))",
		"x?1:2":                      "((x)?(1):(2))",
		"let a=x?1:2;a+1":            "let a=(x?1:2);(a+1)",
		"min(1+2,x?3:4)":             "min((1+2),((x?3:4)))",
		"abs(x-y)":                   "(abs((x-y)))",
		"1+2*3":                      "(1)+((2)*(3))",
		"-x":                         "-(x)",
		"let a=p(-1,0);a*a":          "let a=(p(-1,0));((a)*(a))",
		"clamp(x,lo,hi)":             "clamp((x),(lo),(hi))",
		"x?y?1:2:c?3:4":              "x?(y?1:2):(c?3:4)",
		"med(1,2,3)<4|5&6":           "((med(1,2,3))<4)|(5&6)",
		"let a=1;let b=a;a<b?a:b<<1": "let a=((1));let b=((a));((a<b)?(a):((b)<<(1)))",
	} {
		holds(t, bracketed, treeOf(t, text))
	}
	for _, text := range programs {
		if !strings.HasPrefix(text, "let") {
			holds(t, "("+text+")", treeOf(t, text))
			holds(t, "let w="+text+";w", treeOf(t, "let w=("+text+");(w)"))
			holds(t, "abs("+text+")", treeOf(t, "abs((("+text+")))"))
		}
	}
}

func TestBlanksAndRemarksChangeNothing(t *testing.T) {
	for _, text := range programs {
		want := treeOf(t, text)
		list := words(t, text)
		for _, gap := range gaps {
			spread := gap + strings.Join(list, gap) + gap
			if len(spread) <= api.MaxText {
				holds(t, spread, want)
			}
			holds(t, gap+text+gap+"# the end", want)
		}
		for seed := range uint(20) {
			next := draw(seed)
			spread := ""
			for _, w := range list {
				spread += w + gaps[next(len(gaps))]
			}
			if len(spread) <= api.MaxText {
				holds(t, spread, want)
			}
		}
	}
}

// P1, rules 2, 4 and 6

// A text made of bytes that are written over afterwards shows whether a piece of it was kept.
func TestTextIsNotKept(t *testing.T) {
	text := "let abc=x;let de_1=abc+p(-1,0);abc*de_1"
	room := []byte(text)
	got, e := parse.Parse(unsafe.String(unsafe.SliceData(room), len(room)))
	if string(room) != text {
		t.Errorf("Parse wrote %q", room)
	}
	for i := range room {
		room[i] = '#'
	}
	if want, _ := model(text); !alike(got, want) || e != api.OK {
		t.Errorf("Parse behind a write: %s, %d", told(got), e)
	}
}

func TestTreesAreNew(t *testing.T) {
	for _, text := range programs {
		want, _ := model(text)
		first, second := treeOf(t, text), treeOf(t, text)
		names, binds, nodes := first.Names[:cap(first.Names)], first.Binds[:cap(first.Binds)], first.Nodes[:cap(first.Nodes)]
		for i := range binds {
			binds[i] = -1
		}
		for i := range names {
			names[i] = "written over"
		}
		for i := range nodes {
			nodes[i] = api.Node{Op: -1}
		}
		if !alike(second, want) {
			t.Errorf("two trees of %q share memory", text)
		}
		holds(t, text, want)
	}
}

// A text that is refused leaves nothing behind for the next one.
func TestRefusalsLeaveNothing(t *testing.T) {
	for _, text := range programs {
		want, _ := model(text)
		refused(t, "let a=1;let kept=2;("+text)
		refused(t, "kept")
		holds(t, text, want)
	}
}
