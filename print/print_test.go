package print_test

import (
	"fmt"
	"maps"
	"math"
	"slices"
	"strings"
	"testing"
	"unsafe"

	"damask/api"
	"damask/parse"
	"damask/print"
)

// programs are ordinary ones, each as it is printed.
var programs = []string{
	"1", "x", "p(-1,0)", "q(1,-1)", "p(-1,0)+1", "(p(-1,0)+p(0,-1))/2", "med(p(-1,0),p(0,-1),p(-1,0)+p(0,-1)-p(-1,-1))",
	"let a=p(-1,0);let b=p(0,-1);let c0=p(-1,-1);c0>=max(a,b)?min(a,b):c0<=min(a,b)?max(a,b):a+b-c0",
	"1/(abs(p(-1,0)-p(0,-1))+1)", "(x&255)*(x&255)", "2*p(-1)-p(-2)", "clamp(2*p(-1)-p(-2),lo,hi)", "let a=hi;a*a", "x?1:y?2:3",
	"c?q(1,0,0)+p(-1,0)-q(1,-1,0):mid", "let d=abs(p(-1,0)-p(0,-1));d<2?0:d<8?1:d<32?2:3", "-x", "--1", "sgn(-x)<<3>>1", "1<<2<3|4&5^6",
	"let a=1;let b=a;let c2=a+b;(c2%3==0)!=(a>b)", "min(x,max(y,-c))", "let unused=q(3,-2147483647,2147483647);2147483647",
}

// operators are the operators that have parts, in one order.
var operators = slices.Sorted(maps.Keys(trees))

// leaves are parts of every kind that have none.
var leaves = []expr{num(0), num(2147483647), in(api.InX), in(api.InMid), place(0, -1), place2(0, -1, 0), place(2, -3), place2(2, 3, -4)}

// draw answers numbers below n, by a walk that a seed sets.
func draw(seed uint) func(n int) int {
	return func(n int) int {
		seed = seed*6364136223846793005 + 1442695040888963407
		return int(seed>>33) % n
	}
}

// filled answers an operator of one part throughout, but for one place.
func filled(op, at int, what, others expr) expr {
	parts := slices.Repeat([]expr{others}, trees[op])
	parts[at] = what
	return of(op, parts...)
}

// The chapter's examples

func TestExamples(t *testing.T) {
	for text, want := range map[string]string{
		"( 1 + 2 ) * p( -1 , 0 )":             "(1+2)*p(-1,0)",
		"(1-2)-3":                             "1-2-3",
		"1-(2-3)":                             "1-(2-3)",
		"1<(2<3)":                             "1<(2<3)",
		"x?(y?1:2):3":                         "x?y?1:2:3",
		"-(-(1))":                             "--1",
		"1+(-2)":                              "1+-2",
		"1<<(2+3)":                            "1<<2+3",
		"let a = 1 ; let b_ = (a) ; a|(b_&a)": "let a=1;let b_=a;a|b_&a",
		"p(-0,0)":                             "p(0,0)",
	} {
		holds(t, treeOf(t, text), want)
		read(t, text)
	}
	e := num(1234567890)
	for range 99 {
		e = of(api.OpMul, e, num(1234567890))
	}
	if got := len(model(alone(e))); got != 1099 {
		t.Errorf("the long example has %d bytes", got)
	}
	limited(t, alone(e))
}

// 8.1: what is written how

func TestPrograms(t *testing.T) {
	for _, text := range programs {
		holds(t, treeOf(t, text), text)
		read(t, text)
	}
}

func TestInputsAndNumbers(t *testing.T) {
	for k, name := range inputs {
		holds(t, alone(in(k)), name)
		holds(t, alone(neg(in(k))), "-"+name)
		holds(t, alone(of(api.OpAdd, in(k), in(k))), name+"+"+name)
		holds(t, laid([]string{"a"}, []expr{in(k)}, in(k)), "let a="+name+";"+name)
	}
	for _, k := range []int{0, 1, 7, 9, 10, 255, 65536, 1000000000, 2147483646, 2147483647} {
		text := fmt.Sprint(k)
		holds(t, alone(num(k)), text)
		holds(t, alone(neg(num(k))), "-"+text)
		holds(t, alone(of(api.OpSub, num(k), num(k))), text+"-"+text)
		holds(t, alone(of(api.OpMed, num(k), num(k), num(k))), "med("+text+","+text+","+text+")")
	}
}

func TestPlaces(t *testing.T) {
	for text, e := range map[string]expr{
		"p(0)": place(0, 0), "p(-1)": place(0, -1), "p(1)": place(0, 1), "p(0,0)": place2(0, 0, 0), "p(-1,0)": place2(0, -1, 0), "p(0,-1)": place2(0, 0, -1), "p(2,-1)": place2(0, 2, -1), "p(-2,3)": place2(0, -2, 3),
		"q(1,0)": place(1, 0), "q(3,-16)": place(3, -16), "q(1,0,0)": place2(1, 0, 0), "q(2,-1,-1)": place2(2, -1, -1), "q(1,1,0)": place2(1, 1, 0), "q(2147483647,-2147483647,2147483647)": place2(2147483647, -2147483647, 2147483647),
	} {
		holds(t, alone(e), text)
		holds(t, alone(neg(e)), "-"+text)
		holds(t, alone(of(api.OpSub, e, e)), text+"-"+text)
		holds(t, alone(of(api.OpAbs, e)), "abs("+text+")")
	}
	offsets := []int{-2147483647, -16, -10, -1, 0, 1, 10, 16, 2147483647}
	for _, back := range []int{0, 1, 2, 10, 2147483647} {
		for _, x := range offsets {
			modelled(t, alone(place(back, x)))
			for _, y := range offsets {
				modelled(t, alone(place2(back, x, y)))
			}
		}
	}
	for _, text := range []string{"p(-0)", "q(1,-0)", "p(-0,-0)", "q(2,-0,-0)", "p( - 1 , - 0 )", "q( 1 , -0 , - 3 )"} {
		read(t, text)
	}
	holds(t, treeOf(t, "p(-0)"), "p(0)")
	holds(t, treeOf(t, "q(2,- 0,-0)"), "q(2,0,0)")
}

func TestEachOperator(t *testing.T) {
	for op, text := range map[int]string{
		api.OpNeg: "-1", api.OpAbs: "abs(1)", api.OpSgn: "sgn(1)", api.OpAdd: "1+2", api.OpSub: "1-2", api.OpMul: "1*2", api.OpDiv: "1/2", api.OpMod: "1%2", api.OpShl: "1<<2", api.OpShr: "1>>2", api.OpAnd: "1&2", api.OpOr: "1|2", api.OpXor: "1^2",
		api.OpLt: "1<2", api.OpLe: "1<=2", api.OpGt: "1>2", api.OpGe: "1>=2", api.OpEq: "1==2", api.OpNe: "1!=2", api.OpMin: "min(1,2)", api.OpMax: "max(1,2)", api.OpClamp: "clamp(1,2,3)", api.OpMed: "med(1,2,3)", api.OpSel: "1?2:3",
	} {
		parts := []expr{num(1), num(2), num(3)}[:trees[op]]
		holds(t, alone(of(op, parts...)), text)
		holds(t, laid([]string{"a"}, []expr{of(op, parts...)}, use(0)), "let a="+text+";a")
		for _, leaf := range leaves {
			for at := range trees[op] {
				modelled(t, alone(filled(op, at, leaf, num(1))))
			}
		}
	}
}

// Brackets: each operator as each part of each other one.

// tightness is how tight an operator is, as the chapter lists them.
func tightness(op int) int {
	for i, list := range [][]int{
		{api.OpSel}, {api.OpOr}, {api.OpXor}, {api.OpAnd}, {api.OpLt, api.OpLe, api.OpGt, api.OpGe, api.OpEq, api.OpNe}, {api.OpShl, api.OpShr}, {api.OpAdd, api.OpSub}, {api.OpMul, api.OpDiv, api.OpMod}, {api.OpNeg},
	} {
		if slices.Contains(list, op) {
			return i
		}
	}
	return 9
}

// loosest answers how tight a part must be to have no brackets, in the chapter's words.
func loosest(op, at int) int {
	tight := tightness(op)
	switch {
	case op == api.OpNeg:
		return tight
	case op == api.OpSel && at == 0:
		return tightness(api.OpOr)
	case op == api.OpSel, tight == 9:
		return 0
	case at == 0 && tight != tightness(api.OpLt):
		return tight
	}
	return tight + 1
}

func TestEachOperatorWithinEachOther(t *testing.T) {
	for _, outer := range operators {
		for at := range trees[outer] {
			for _, inner := range operators {
				parts := []expr{num(1), num(2), num(3)}[:trees[inner]]
				e := filled(outer, at, of(inner, parts...), num(7))
				modelled(t, alone(e))
				text, err := print.Print(alone(e))
				if count := len(brackets(t, text)); err != api.OK || (count == 1) != (tightness(inner) < loosest(outer, at)) || count > 1 {
					t.Errorf("%d as part %d of %d is %q", inner, at, outer, text)
				}
				full := bracketed(e, nil, true)
				read(t, full)
				if best := shortest(t, bracketed(e, nil, false)); text != best {
					t.Errorf("%q is printed as %q, not as %q", full, text, best)
				}
				let := laid([]string{"a"}, []expr{e}, filled(outer, at, of(inner, slices.Repeat([]expr{use(0)}, trees[inner])...), use(0)))
				modelled(t, let)
			}
			for _, leaf := range leaves {
				modelled(t, alone(filled(outer, at, neg(leaf), leaf)))
			}
		}
	}
}

func TestThreeWithinEachOther(t *testing.T) {
	for _, outer := range operators {
		for at := range trees[outer] {
			for _, middle := range operators {
				for within := range trees[middle] {
					for _, inner := range operators {
						e := filled(outer, at, filled(middle, within, filled(inner, 0, num(1), in(0)), in(1)), in(2))
						text, err := print.Print(alone(e))
						if best := shortest(t, bracketed(e, nil, false)); text != best || err != api.OK {
							t.Fatalf("Print = %q, %d, not %q", text, err, best)
						}
					}
				}
			}
		}
	}
}

func TestTwoPartsOfOne(t *testing.T) {
	for _, outer := range operators {
		for _, a := range operators {
			for _, b := range operators {
				parts := []expr{filled(a, 0, num(1), in(0)), filled(b, 0, num(2), in(1)), filled(a, 0, num(3), in(2))}
				modelled(t, alone(of(outer, parts[:trees[outer]]...)))
			}
		}
	}
}

func TestBracketsOfOperatorsOfTwo(t *testing.T) {
	for text, want := range map[string]string{
		"(1|2)|3": "1|2|3", "1|(2|3)": "1|(2|3)", "(1^2)^3": "1^2^3", "1^(2^3)": "1^(2^3)", "(1&2)&3": "1&2&3", "1&(2&3)": "1&(2&3)",
		"(1<2)<3": "(1<2)<3", "1<(2<3)": "1<(2<3)", "(1<2)==(3>=4)": "(1<2)==(3>=4)", "(1!=2)<=3": "(1!=2)<=3", "1>(2==3)": "1>(2==3)",
		"(1<<2)>>3": "1<<2>>3", "1<<(2>>3)": "1<<(2>>3)", "(1>>2)>>3": "1>>2>>3", "1>>(2>>3)": "1>>(2>>3)",
		"(1+2)-3": "1+2-3", "1+(2-3)": "1+(2-3)", "1+(2+3)": "1+(2+3)", "(1*2)/3": "1*2/3", "1*(2/3)": "1*(2/3)", "1*(2*3)": "1*(2*3)", "(1%2)*3": "1%2*3", "1%(2*3)": "1%(2*3)",
		"(1+2)*3": "(1+2)*3", "1*(2+3)": "1*(2+3)", "(1*2)+3": "1*2+3", "1+(2*3)": "1+2*3", "(1|2)^3": "(1|2)^3", "1|(2^3)": "1|2^3", "(1^2)|3": "1^2|3", "(1|2)&3": "(1|2)&3",
		"(1<2)&3": "1<2&3", "1<(2&3)": "1<(2&3)", "(1&2)<3": "(1&2)<3", "(1<<2)<3": "1<<2<3", "1<(2<<3)": "1<2<<3", "(1<2)<<3": "(1<2)<<3", "1<<(2<3)": "1<<(2<3)", "(1+2)<<(3-4)": "1+2<<3-4", "(1<<2)+3": "(1<<2)+3",
		"((((1))))+((2))": "1+2", "(((1)+(2)))": "1+2", "((1+2)*(3+4))": "(1+2)*(3+4)", "(1-2)-(3-4)": "1-2-(3-4)", "1-(2-(3-4))": "1-(2-(3-4))", "((1-2)-3)-4": "1-2-3-4",
	} {
		holds(t, treeOf(t, text), want)
		read(t, text)
	}
}

func TestChoices(t *testing.T) {
	for text, want := range map[string]string{
		"1?2:3": "1?2:3", "((1)?(2):(3))": "1?2:3", "(1?2:3)?4:5": "(1?2:3)?4:5", "1?(2?3:4):5": "1?2?3:4:5", "1?2:(3?4:5)": "1?2:3?4:5", "(1?2:3)?(4?5:6):(7?8:9)": "(1?2:3)?4?5:6:7?8:9",
		"(1|2)?(3|4):(5|6)": "1|2?3|4:5|6", "(1<2)?3:4": "1<2?3:4", "(1?2:3)|4": "(1?2:3)|4", "1|(2?3:4)": "1|(2?3:4)", "(1?2:3)+(4?5:6)": "(1?2:3)+(4?5:6)", "-(1?2:3)": "-(1?2:3)", "(-1)?(-2):(-3)": "-1?-2:-3",
		"abs((1?2:3))": "abs(1?2:3)", "min((1?2:3),(4?5:6))": "min(1?2:3,4?5:6)", "clamp((1?2:3),(4|5),(-6))": "clamp(1?2:3,4|5,-6)", "abs((1))?abs((2)):abs((3))": "abs(1)?abs(2):abs(3)",
		"let a=(1?2:3);(a?a:a)": "let a=1?2:3;a?a:a", "1?(2?(3?4:5):6):7": "1?2?3?4:5:6:7", "((1?2:3)?4:5)?6:7": "((1?2:3)?4:5)?6:7",
	} {
		holds(t, treeOf(t, text), want)
		read(t, text)
	}
}

func TestMinuses(t *testing.T) {
	for text, want := range map[string]string{
		"-(-1)": "--1", "-(-(-x))": "---x", "-(1)": "-1", "-(x)": "-x", "-(p(-1))": "-p(-1)", "-(q(1,-1,0))": "-q(1,-1,0)", "-(abs(-1))": "-abs(-1)", "-(min(1,2))": "-min(1,2)", "-(med(1,2,3))": "-med(1,2,3)",
		"-(1+2)": "-(1+2)", "-(1*2)": "-(1*2)", "(-1)*2": "-1*2", "1*(-2)": "1*-2", "1-(-2)": "1--2", "1-(-(-2))": "1---2", "(-1)-(-2)": "-1--2", "-(-1*2)": "-(-1*2)", "-((-1)*(-2))": "-(-1*-2)", "(-(1*2))*3": "-(1*2)*3",
		"(-1)<(-2)": "-1<-2", "1<<(-2)": "1<<-2", "1>>(-2)": "1>>-2", "1&(-2)": "1&-2", "1|(-2)": "1|-2", "1^(-2)": "1^-2", "1%(-2)": "1%-2", "1/(-2)": "1/-2", "1<=(-2)": "1<=-2", "1!=(-2)": "1!=-2", "let a=(-1);(-a)": "let a=-1;-a",
		"-(1<2)": "-(1<2)", "-(1|2)": "-(1|2)", "-(1<<2)": "-(1<<2)", "-(1?2:3)": "-(1?2:3)", "-(-(1+2))": "--(1+2)",
	} {
		holds(t, treeOf(t, text), want)
		read(t, text)
	}
	for _, leaf := range leaves {
		text := model(alone(leaf))
		holds(t, alone(neg(leaf)), "-"+text)
		holds(t, alone(neg(neg(leaf))), "--"+text)
		holds(t, alone(of(api.OpSub, leaf, neg(leaf))), text+"--"+text)
	}
}

func TestCalls(t *testing.T) {
	for op, name := range calls {
		for _, inner := range operators {
			part := filled(inner, 0, num(1), in(0))
			text := model(alone(part))
			want := name + "(" + text + strings.Repeat(","+text, trees[op]-1) + ")"
			e := of(op, slices.Repeat([]expr{part}, trees[op])...)
			holds(t, alone(e), want)
			holds(t, alone(neg(e)), "-"+want)
			holds(t, alone(of(api.OpMul, e, e)), want+"*"+want)
			holds(t, alone(sel(e, e, e)), want+"?"+want+":"+want)
		}
	}
	holds(t, alone(of(api.OpClamp, num(1), num(2), num(3))), "clamp(1,2,3)")
	holds(t, alone(of(api.OpMed, in(2), in(1), in(0))), "med(c,y,x)")
	holds(t, alone(of(api.OpMax, num(1), of(api.OpMin, num(2), num(3)))), "max(1,min(2,3))")
}

func TestLets(t *testing.T) {
	long := "abcdefghijklmn_9"
	holds(t, laid([]string{"a"}, []expr{num(1)}, num(2)), "let a=1;2")
	holds(t, laid([]string{"z"}, []expr{num(1)}, use(0)), "let z=1;z")
	holds(t, laid([]string{long}, []expr{num(1)}, use(0)), "let "+long+"=1;"+long)
	holds(t, laid([]string{"b", "a", long}, []expr{num(1), use(0), of(api.OpAdd, use(1), use(0))}, of(api.OpMul, of(api.OpMul, use(2), use(1)), use(0))), "let b=1;let a=b;let "+long+"=a+b;"+long+"*a*b")
	holds(t, laid([]string{"a", "b"}, []expr{sel(num(1), num(2), num(3)), of(api.OpOr, use(0), use(0))}, sel(use(1), use(0), neg(use(1)))), "let a=1?2:3;let b=a|a;b?a:-b")
	for _, leaf := range leaves {
		modelled(t, laid([]string{"a", "b"}, []expr{leaf, neg(use(0))}, of(api.OpSub, use(1), use(0))))
	}
	for count := range 60 {
		var names []string
		var is []expr
		want := ""
		for i := range count {
			name := fmt.Sprintf("%c%d", 'a'+i%26, i)
			what, text := num(0), "0"
			if i > 0 {
				what, text = use(i/2), names[i/2]
			}
			want += "let " + name + "=" + text + ";"
			names, is = append(names, name), append(is, what)
		}
		holds(t, laid(names, is, num(count)), want+fmt.Sprint(count))
	}
}

// Blanks, remarks, and brackets that need not be.
func TestTextsWrittenLoosely(t *testing.T) {
	for _, text := range programs {
		x := treeOf(t, text)
		at := strings.LastIndex(text, ";") + 1
		for _, loose := range []string{
			" " + text + " ", "# let\n" + text + "#1", text + "\n\n", text[:at] + "(" + text[at:] + ")", text[:at] + "(( " + text[at:] + ")\t)", strings.ReplaceAll(text, ",", " , "), strings.ReplaceAll(text, "(", "( "), strings.ReplaceAll(text, ";", " ; #(\n"),
		} {
			if y := treeOf(t, loose); !alike(x, y) {
				t.Fatalf("%q is read as %s", loose, told(y))
			}
			holds(t, treeOf(t, loose), text)
			read(t, loose)
		}
	}
}

// ErrForm

func TestUnsoundTrees(t *testing.T) {
	one := alone(num(1))
	sum := alone(of(api.OpAdd, num(1), num(2)))
	let := treeOf(t, "let a=1;let b=a+2;a*b")
	refused(t, "nothing", api.Tree{})
	refused(t, "no nodes", api.Tree{Nodes: []api.Node{}, Names: []string{}, Binds: []int{}})
	for why, spoil := range map[string]func(*api.Tree){
		"the root lower":       func(x *api.Tree) { x.Root-- },
		"the root higher":      func(x *api.Tree) { x.Root++ },
		"the root below 0":     func(x *api.Tree) { x.Root = -1 },
		"the root far off":     func(x *api.Tree) { x.Root = math.MaxInt },
		"the last node gone":   func(x *api.Tree) { x.Nodes = x.Nodes[:len(x.Nodes)-1] },
		"the first node gone":  func(x *api.Tree) { x.Nodes, x.Root = x.Nodes[1:], x.Root-1 },
		"a node more":          func(x *api.Tree) { x.Nodes, x.Root = append(x.Nodes, api.Node{Op: api.OpNum}), x.Root+1 },
		"an operator of none":  func(x *api.Tree) { x.Nodes[0].Op = 0 },
		"an operator of codes": func(x *api.Tree) { x.Nodes[x.Root].Op = api.OpShlK },
		"an operator far off":  func(x *api.Tree) { x.Nodes[x.Root].Op = math.MaxInt },
		"an operator below 0":  func(x *api.Tree) { x.Nodes[x.Root].Op = math.MinInt },
		"a number below 0":     func(x *api.Tree) { x.Nodes[0].K = -1 },
		"a number too great":   func(x *api.Tree) { x.Nodes[0].K = 2147483648 },
		"a part of a number":   func(x *api.Tree) { x.Nodes[0].A = 1 },
		"a place of a number":  func(x *api.Tree) { x.Nodes[0].At.Coords = 1 },
		"an input of none":     func(x *api.Tree) { x.Nodes[0] = api.Node{Op: api.OpIn, K: 6} },
		"a name of none":       func(x *api.Tree) { x.Nodes[0] = api.Node{Op: api.OpUse} },
		"a name more":          func(x *api.Tree) { x.Names = append(x.Names, "zz") },
		"a bind more":          func(x *api.Tree) { x.Binds = append(x.Binds, x.Root) },
		"both more":            func(x *api.Tree) { x.Names, x.Binds = append(x.Names, "zz"), append(x.Binds, x.Root) },
		"a bind below 0":       func(x *api.Tree) { x.Names, x.Binds = append(x.Names, "zz"), append(x.Binds, -1) },
	} {
		for _, x := range []api.Tree{one, sum, let} {
			y := copied(x)
			spoil(&y)
			refused(t, why, y)
		}
	}
	for _, name := range []string{"", "x", "let", "p", "q", "abs", "mid", "b", "A", "_a", "1a", "a ", "a-b", "abcdefghijklmnopq", "é", "a\x00", strings.Repeat("a", 1<<16)} {
		y := copied(let)
		y.Names[0] = name
		refused(t, name, y)
	}
	for i, bind := range [][]int{{0, 2}, {0, 4}, {1, 3}, {3, 0}, {0, 0}, {0, 6}, {-1, 3}, {0, math.MaxInt}, {0}, {}, {0, 3, 4}} {
		y := copied(let)
		y.Binds = bind
		refused(t, fmt.Sprint("binds ", i), y)
	}
	for _, at := range []api.Place{{}, {X: 1}, {Coords: 3}, {Coords: -1}, {Coords: 1, Y: 1}, {Coords: 1, X: 2147483648}, {Coords: 2, Y: -2147483648}, {Coords: 1, Back: -1}, {Coords: 2, Back: 2147483648}, {Coords: math.MaxInt}, {Coords: 2, X: math.MinInt}} {
		refused(t, fmt.Sprint("the place ", at), alone(expr{op: api.OpPlace, at: at}))
	}
}

// edges are numbers about those that a field may be.
func edges(x api.Tree) []int {
	list := []int{math.MinInt, -1 << 31, -1<<31 + 1, -2, -1, 0, 1, 2, 3, 5, 6, 1023, 1024, 1<<31 - 1, 1 << 31, math.MaxInt}
	return append(list, len(x.Nodes)-2, len(x.Nodes)-1, len(x.Nodes), len(x.Names)-1, len(x.Names))
}

func TestOneThingChanged(t *testing.T) {
	for _, text := range programs {
		x := treeOf(t, text)
		y := copied(x)
		fields := []*int{&y.Root}
		for i := range y.Binds {
			fields = append(fields, &y.Binds[i])
		}
		for i := range y.Nodes {
			n := &y.Nodes[i]
			fields = append(fields, &n.Op, &n.A, &n.B, &n.C, &n.K, &n.At.Back, &n.At.Coords, &n.At.X, &n.At.Y)
		}
		for _, field := range fields {
			was := *field
			for _, to := range append(edges(x), was-1, was+1) {
				*field = to
				modelled(t, y)
			}
			for to := -1; to <= api.OpMulS+1; to++ {
				*field = to
				modelled(t, y)
			}
			*field = was
		}
		for i, name := range y.Names {
			for _, to := range []string{"", "a", "b", "zz", "x", "let", "A", name + "_", name + " ", "abcdefghijklmn_9", "abcdefghijklmn_90"} {
				y.Names[i] = to
				modelled(t, y)
			}
			y.Names[i] = name
		}
		for i := range y.Nodes {
			z := copied(x)
			z.Nodes = slices.Delete(z.Nodes, i, i+1)
			modelled(t, z)
			z.Root--
			modelled(t, z)
		}
	}
}

// Trees of any numbers: whatever they are, there is an answer.
func TestWildTrees(t *testing.T) {
	next := draw(7)
	for range 20000 {
		var x api.Tree
		number := func() int {
			if next(3) > 0 {
				return next(8) - 1
			}
			return []int{math.MinInt, math.MaxInt, -1 << 31, 1 << 31, 1<<31 - 1, 1 << 62, 1024}[next(7)]
		}
		for range next(6) {
			x.Nodes = append(x.Nodes, api.Node{Op: next(40) - 2, A: number(), B: number(), C: number(), K: number(), At: api.Place{Back: number(), Coords: number(), X: number(), Y: number()}})
		}
		for range next(3) {
			x.Names = append(x.Names, []string{"a", "b", "x", "", "\xff"}[next(5)])
		}
		for range next(3) {
			x.Binds = append(x.Binds, number())
		}
		x.Root = number()
		modelled(t, x)
	}
	// A node that is its own part, and parts in a ring.
	refused(t, "its own part", api.Tree{Nodes: []api.Node{{Op: api.OpNeg}}})
	refused(t, "a ring", api.Tree{Nodes: []api.Node{{Op: api.OpNeg, A: 1}, {Op: api.OpNeg, A: 0}}, Root: 1})
	shared := []api.Node{{Op: api.OpNum}}
	for i := range 1000 {
		shared = append(shared, api.Node{Op: api.OpAdd, A: i, B: i})
	}
	refused(t, "parts that two share", api.Tree{Nodes: shared, Root: 1000})
}

// ErrLimit

// sums answers a row of so many ones, added up, the last number being another.
func sums(count, last int) expr {
	e := num(1)
	for i := range count - 1 {
		k := 1
		if i == count-2 {
			k = last
		}
		e = of(api.OpAdd, e, num(k))
	}
	return e
}

func TestTextsAsLongAsTheyMayBe(t *testing.T) {
	holds(t, alone(sums(512, 1)), strings.Repeat("1+", 511)+"1")
	holds(t, alone(sums(512, 10)), strings.Repeat("1+", 511)+"10")
	limited(t, alone(sums(512, 100)))
	limited(t, alone(sums(512, 2147483647)))
	minuses := func(count, k int) expr {
		e := num(k)
		for range count {
			e = neg(e)
		}
		return e
	}
	holds(t, alone(minuses(1023, 1)), strings.Repeat("-", 1023)+"1")
	limited(t, alone(minuses(1023, 10)))
	holds(t, alone(minuses(1022, 10)), strings.Repeat("-", 1022)+"10")
	refused(t, "a node too many", alone(minuses(1024, 1)))
	refused(t, "many nodes too many", alone(minuses(5000, 1)))
}

func TestLetsAsManyAsMayBe(t *testing.T) {
	var names []string
	var is []expr
	for i := range 42 {
		names, is = append(names, fmt.Sprintf("abcdefghijklmn%02d", i)), append(is, num(10+i))
	}
	lets := strings.Repeat("let abcdefghijklmn00=00;", 42)
	for count := range 40 {
		last := num(1)
		for range count {
			last = neg(last)
		}
		x := laid(names, is, last)
		modelled(t, x)
		if len(lets)+count+1 > 1024 {
			limited(t, x)
			continue
		}
		if got, e := print.Print(x); e != api.OK || len(got) != len(lets)+count+1 {
			t.Errorf("%d minuses behind the lets: %q, %d", count, got, e)
		}
	}
}

// Each kind of part at the limit: a tree of just so many bytes, and the same with one more.
func TestTheLimitForEachKindOfPart(t *testing.T) {
	wraps := map[string]func(expr) expr{
		"abs":                func(e expr) expr { return of(api.OpAbs, e) },
		"min":                func(e expr) expr { return of(api.OpMin, e, in(0)) },
		"clamp":              func(e expr) expr { return of(api.OpClamp, num(1), e, num(2)) },
		"brackets behind":    func(e expr) expr { return of(api.OpSub, num(1), of(api.OpAdd, e, num(2))) },
		"brackets ahead":     func(e expr) expr { return of(api.OpMul, of(api.OpAdd, e, num(2)), num(3)) },
		"comparisons":        func(e expr) expr { return of(api.OpLe, of(api.OpNe, e, num(2)), num(3)) },
		"choices ahead":      func(e expr) expr { return sel(e, num(1), num(2)) },
		"choices between":    func(e expr) expr { return sel(num(1), e, num(2)) },
		"choices behind":     func(e expr) expr { return sel(num(1), num(2), e) },
		"minus and brackets": func(e expr) expr { return neg(of(api.OpShl, e, num(1))) },
		"places":             func(e expr) expr { return of(api.OpXor, e, place2(12, -34, 56)) },
	}
	for why, wrap := range wraps {
		e := num(1)
		for len(model(alone(e))) < 1000 {
			e = wrap(e)
		}
		for len(model(alone(e))) < 1023 {
			e = neg(e)
		}
		for range 4 {
			modelled(t, alone(e))
			e = neg(e)
		}
		if got := len(model(alone(e))); got != 1027 {
			t.Errorf("%s: the texts aren't about the limit, but end ahead of %d", why, got)
		}
	}
}

func TestTextsFarTooLong(t *testing.T) {
	far := place2(2147483647, -2147483647, -2147483647)
	e := far
	for range 511 {
		e = of(api.OpSub, far, e)
	}
	limited(t, alone(e))
	var names []string
	var is []expr
	for i := range 1023 {
		names, is = append(names, fmt.Sprintf("abcdefghijkl%04d", i)), append(is, far)
	}
	limited(t, laid(names, is, far))
	// What isn't sound is refused as such, however long it is.
	refused(t, "a number too great", alone(of(api.OpSub, e, num(-1))))
	refused(t, "a name twice", laid(append(names[:1022:1022], names[0]), is, far))
	refused(t, "a node too many", laid(names, is, neg(far)))
}

// 8.2

// every hands all rows of up to so many bytes to a function.
func every(alphabet string, length int, do func(string)) {
	var longer func(text string)
	longer = func(text string) {
		do(text)
		if len(text) == length {
			return
		}
		for i := range alphabet {
			longer(text + alphabet[i:i+1])
		}
	}
	longer("")
}

// Of all short texts that are read as one tree, none is shorter than the printed one.
func TestNoTextIsShorter(t *testing.T) {
	for alphabet, length := range map[string]int{"1-()": 8, "1+*()": 7, "1<()": 8, "1<&()": 7, "x?:()": 8, "1-<?:()": 6, "p(0-,)": 7, "1-| #\n": 5} {
		count := 0
		every(alphabet, length, func(text string) {
			x, e := parse.Parse(text)
			if e != api.OK {
				return
			}
			count++
			got, f := print.Print(x)
			if f != api.OK || len(got) > len(text) || got != model(x) {
				t.Errorf("Print of %q is %q, %d", text, got, f)
			}
		})
		if count < 5 {
			t.Errorf("%q: %d programs", alphabet, count)
		}
	}
}

// sketch answers an expression of at most so many levels, in which so many names may be used.
func sketch(next func(int) int, deep, names int) expr {
	if deep == 0 || next(5) == 0 {
		switch next(5) {
		case 0:
			return in(next(6))
		case 1:
			return place(next(3), next(9)-4)
		case 2:
			return place2(next(3), next(9)-4, next(9)-4)
		case 3:
			if names > 0 {
				return use(next(names))
			}
		}
		return num(next(100))
	}
	e := expr{op: operators[next(len(operators))]}
	for range trees[e.op] {
		e.parts = append(e.parts, sketch(next, deep-1, names))
	}
	return e
}

func TestTreesAtRandom(t *testing.T) {
	next := draw(11)
	names := []string{"a", "b_", "left", "abcdefghijklmn_9"}
	printed := 0
	for range 6000 {
		var is []expr
		count := next(len(names) + 1)
		deep := 1 + next(4)
		for i := range count {
			is = append(is, sketch(next, deep, i))
		}
		last := sketch(next, deep, count)
		x := laid(names[:count], is, last)
		modelled(t, x)
		text := ""
		for i, e := range is {
			text += "let " + names[i] + " = (" + bracketed(e, names, next(2) == 0) + ") ;\n"
		}
		text += bracketed(last, names, next(2) == 0)
		if y, e := parse.Parse(text); e == api.OK {
			printed++
			if !alike(x, y) {
				t.Fatalf("%q is read as %s", text, told(y))
			}
			read(t, text)
		}
	}
	if printed < 3000 {
		t.Errorf("%d texts", printed)
	}
}

// What is printed of a printed text's tree is that text.
func TestPrintedTwice(t *testing.T) {
	next := draw(23)
	for range 500 {
		x := alone(sketch(next, 4, 0))
		text, e := print.Print(x)
		if e != api.OK {
			continue
		}
		if again, e := print.Print(treeOf(t, text)); e != api.OK || again != text {
			t.Errorf("%q is printed as %q, %d", text, again, e)
		}
	}
}

// P1

// roomy answers a tree whose lists have spare room, filled with marks, and a function that tells whether the marks still stand.
func roomy(x api.Tree) (api.Tree, func() bool) {
	names := append(slices.Clone(x.Names), "spare", "spare")
	binds := append(slices.Clone(x.Binds), -7, -7)
	nodes := append(slices.Clone(x.Nodes), api.Node{Op: -7}, api.Node{Op: -7})
	y := api.Tree{Names: names[:len(x.Names)], Binds: binds[:len(x.Binds)], Nodes: nodes[:len(x.Nodes)], Root: x.Root}
	return y, func() bool {
		return alike(x, y) && slices.Equal(names[len(x.Names):], []string{"spare", "spare"}) && slices.Equal(binds[len(x.Binds):], []int{-7, -7}) && slices.Equal(nodes[len(x.Nodes):], []api.Node{{Op: -7}, {Op: -7}})
	}
}

func TestTreesStayAsTheyWere(t *testing.T) {
	for _, text := range programs {
		x, stand := roomy(treeOf(t, text))
		got, e := print.Print(x)
		if got != text || e != api.OK || !stand() {
			t.Errorf("Print of %q = %q, %d, or its tree was changed", text, got, e)
		}
		x.Root++
		if got, e := print.Print(x); got != "" || e != api.ErrForm {
			t.Errorf("Print of a wrong root = %q, %d", got, e)
		}
		x.Root--
		if !stand() {
			t.Errorf("the tree of %q was changed", text)
		}
	}
	x, stand := roomy(alone(sums(512, 100)))
	if limited(t, x); !stand() {
		t.Errorf("the tree of a long text was changed")
	}
}

func TestTextsAreNewMemory(t *testing.T) {
	for _, text := range programs {
		x := treeOf(t, text)
		one, _ := print.Print(x)
		two, _ := print.Print(x)
		if unsafe.StringData(one) == unsafe.StringData(two) {
			t.Errorf("two texts %q share memory", text)
		}
		for i := range x.Names {
			x.Names[i] = "other"
		}
		for i := range x.Nodes {
			x.Nodes[i] = api.Node{}
		}
		if one != text || two != text {
			t.Errorf("%q became %q, %q", text, one, two)
		}
	}
}

func TestEmptyListsAreNone(t *testing.T) {
	x := alone(num(1))
	x.Names, x.Binds = []string{}, []int{}
	holds(t, x, "1")
	x.Names = nil
	holds(t, x, "1")
}

func TestOneTreeOneText(t *testing.T) {
	for _, text := range programs {
		x := treeOf(t, text)
		for range 3 {
			holds(t, x, text)
			print.Print(api.Tree{})
			print.Print(alone(sums(512, 100)))
		}
	}
}
