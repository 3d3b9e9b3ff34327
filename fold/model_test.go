package fold_test

import (
	"fmt"
	"slices"
	"strconv"
	"strings"
	"testing"

	"damask/api"
	"damask/arith"
	"damask/code"
	"damask/fold"
	"damask/kind"
	"damask/verify"
)

// The ends of the numbers of 32 bits.
const (
	least = -1 << 31
	most  = 1<<31 - 1
)

var (
	image = api.Kind{Form: api.Image, Depth: 8}
	sound = api.Kind{Form: api.Sound, Depth: 16}
)

// Codes as texts: "place 16; num 0; add 0 1; shlk 2 3; out 3" names the operators in small letters, behind each the registers that it reads, and behind these its constants. Without an out the last register is the answer.

// names are the operators, by their numbers.
var names = strings.Fields("none num in place use neg abs sgn add sub mul div mod shl shr and or xor lt le gt ge eq ne min max clamp med sel shlk shrk andk mulk muls")

// reads is how many registers the operators read; what isn't told here reads two.
var reads = map[string]int{"num": 0, "in": 0, "place": 0, "neg": 1, "abs": 1, "sgn": 1, "shlk": 1, "shrk": 1, "andk": 1, "mulk": 1, "muls": 1, "clamp": 3, "med": 3, "sel": 3}

// constants is how many constants the operators have; what isn't told here has none.
var constants = map[string]int{"num": 1, "in": 1, "place": 1, "shlk": 1, "shrk": 1, "andk": 1, "mulk": 1, "muls": 2}

// words are numbers that are written as words.
var words = map[string]int{"least": least, "most": most, "x": 0, "y": 1, "c": 2, "lo": 3, "hi": 4, "mid": 5}

// all are the names of all operators of register code.
var all = slices.DeleteFunc(slices.Clone(names), func(name string) bool { return name == "none" || name == "use" })

func readsOf(name string) int {
	if count, ok := reads[name]; ok {
		return count
	}
	return 2
}

func number(word string) int {
	if x, ok := words[word]; ok {
		return x
	}
	x, e := strconv.Atoi(word)
	if e != nil {
		panic(e)
	}
	return x
}

// inst reads an instruction.
func inst(text string) api.Inst {
	list := strings.Fields(text)
	n := api.Inst{Op: slices.Index(names, list[0])}
	fields := slices.Concat([]*int{&n.A, &n.B, &n.C}[:readsOf(list[0])], []*int{&n.K, &n.S}[:constants[list[0]]])
	if n.Op < 0 || len(list) != 1+len(fields) {
		panic(text)
	}
	for i, field := range fields {
		*field = number(list[1+i])
	}
	return n
}

// codedFor reads a code of a kind.
func codedFor(k api.Kind, text string) api.Code {
	c := api.Code{Kind: k, Out: -1}
	for _, part := range strings.Split(text, ";") {
		if word, out := strings.CutPrefix(strings.TrimSpace(part), "out "); out {
			c.Out = number(word)
			continue
		}
		c.Insts = append(c.Insts, inst(part))
	}
	if c.Out < 0 {
		c.Out = len(c.Insts) - 1
	}
	return c
}

// coded reads a code of {Image, 8}.
func coded(text string) api.Code { return codedFor(image, text) }

// shown writes a code as a text.
func shown(c api.Code) string {
	var list []string
	for _, n := range c.Insts[:min(len(c.Insts), 60)] {
		if n.Op < 1 || n.Op >= len(names) || inst0(n) != n {
			list = append(list, fmt.Sprintf("%+v", n))
			continue
		}
		list = append(list, written(n))
	}
	return fmt.Sprintf("%v: %s; out %d", c.Kind, strings.Join(list, "; "), c.Out)
}

// inst0 answers the instruction with 0 in the fields that its operator hasn't.
func inst0(n api.Inst) api.Inst {
	name := names[n.Op]
	fields := slices.Concat([]*int{&n.A, &n.B, &n.C}[readsOf(name):], []*int{&n.K, &n.S}[constants[name]:])
	for _, field := range fields {
		*field = 0
	}
	return n
}

// written writes an instruction as a text.
func written(n api.Inst) string {
	name := names[n.Op]
	text := name
	for _, x := range slices.Concat([]int{n.A, n.B, n.C}[:readsOf(name)], []int{n.K, n.S}[:constants[name]]) {
		text += fmt.Sprint(" ", x)
	}
	return text
}

// The model of Fold: the chapter's rules as lines of a table, each with what must be so, which are read anew for each instruction.

// rule is a line of the chapter: of these operators, where it is so, the instruction becomes a number or its register stands for another.
type rule struct{ ops, where, then string }

// rule3 makes numbers.
var rule3 = []rule{
	{"sub xor lt gt ne", "A one B", "0"},
	{"mul and", "A is 0", "0"},
	{"mul and", "B is 0", "0"},
	{"mod", "B is 1", "0"},
	{"mulk andk", "K is 0", "0"},
	{"le ge eq", "A one B", "1"},
}

// rule4 makes registers stand for others.
var rule4 = []rule{
	{"add xor", "A is 0", "B"},
	{"add xor", "B is 0", "A"},
	{"mul", "A is 1", "B"},
	{"mul", "B is 1", "A"},
	{"or", "A one B", "A"},
	{"or", "A is 0", "B"},
	{"or", "B is 0", "A"},
	{"and", "A one B", "A"},
	{"and", "A is -1", "B"},
	{"and", "B is -1", "A"},
	{"min max", "A one B", "A"},
	{"sub shl shr", "B is 0", "A"},
	{"div", "B is 1", "A"},
	{"shlk shrk", "K is 0", "A"},
	{"mulk", "K is 1", "A"},
	{"neg", "A op neg", "A's"},
	{"abs", "A op abs", "A"},
	{"sel", "A is 0", "C"},
	{"sel", "A op num", "B"},
	{"sel", "B one C", "B"},
	{"med", "A one B", "A"},
	{"med", "A one C", "A"},
	{"med", "B one C", "B"},
	{"clamp", "B one C", "B"},
}

// applied is how often each line of the rules 3 and 4 has been applied, by operator and line.
type applied map[string]int

// field answers the register or the constant that a letter names.
func field(n api.Inst, letter string) int {
	return map[string]int{"A": n.A, "B": n.B, "C": n.C, "K": n.K}[letter]
}

// so tells whether what a line asks is so of an instruction.
func so(n api.Inst, where string, list []api.Inst) bool {
	part := strings.Fields(where)
	left, how, right := field(n, part[0]), part[1], part[2]
	switch {
	case how == "one":
		return left == field(n, right)
	case how == "op":
		return names[list[left].Op] == right
	case part[0] == "K":
		return left == number(right)
	}
	return list[left] == api.Inst{Op: api.OpNum, K: number(right)}
}

// find answers what the first line that applies makes of an instruction; the empty text, if there is none.
func find(rules []rule, n api.Inst, list []api.Inst, hits applied) string {
	name := names[n.Op]
	for _, r := range rules {
		if slices.Contains(strings.Fields(r.ops), name) && so(n, r.where, list) {
			hits[name+": "+r.where+": "+r.then]++
			return r.then
		}
	}
	return ""
}

// rewritten answers the new code of the chapter.
func rewritten(c api.Code, hits applied) api.Code {
	d := api.Code{Kind: c.Kind}
	stands := map[int]int{}
	for i, n := range c.Insts {
		for _, r := range []*int{&n.A, &n.B, &n.C}[:readsOf(names[n.Op])] {
			*r = stands[*r]
		}
		stands[i] = i
		x, ok := modelNumber(c.Kind, n, d.Insts, hits)
		switch {
		case ok:
			n = api.Inst{Op: api.OpNum, K: x}
		default:
			switch then := find(rule4, n, d.Insts, hits); then {
			case "":
			case "A's":
				stands[i] = d.Insts[n.A].A
			default:
				stands[i] = field(n, then)
			}
		}
		d.Insts = append(d.Insts, n)
	}
	d.Out = stands[c.Out]
	return d
}

// modelNumber answers the number that an instruction becomes by the rules 1 to 3.
func modelNumber(k api.Kind, n api.Inst, list []api.Inst, hits applied) (int, bool) {
	if names[n.Op] == "in" && n.K >= api.InLo {
		low, high, border := samples(k)
		return []int{low, high, border}[n.K-api.InLo], true
	}
	var args []int
	for _, r := range []int{n.A, n.B, n.C}[:readsOf(names[n.Op])] {
		if list[r].Op == api.OpNum {
			args = append(args, list[r].K)
		}
	}
	if len(args) > 0 && len(args) == readsOf(names[n.Op]) {
		x, e := arith.Value(n.Op, n.K, n.S, args...)
		if e != api.OK {
			panic(fmt.Sprint(written(n), " of ", args, ": ", e))
		}
		return x, true
	}
	if then := find(rule3, n, list, hits); then != "" {
		return number(then), true
	}
	return 0, false
}

// model answers what Fold must.
func model(c api.Code, hits applied) (api.Code, api.Errno) {
	if _, e := verify.Verify(c); e != api.OK {
		return api.Code{}, e
	}
	d := rewritten(c, hits)
	if _, e := verify.Verify(d); e != api.OK {
		return c, api.OK
	}
	return d, api.OK
}

// samples answers the least and the greatest of a kind's samples, and the one at the border.
func samples(k api.Kind) (low, high, border int) {
	if k.Form == api.Image {
		return 0, 1<<k.Depth - 1, 1 << (k.Depth - 1)
	}
	return -1 << (k.Depth - 1), 1<<(k.Depth-1) - 1, 0
}

// kinds goes over all kinds that may be.
func kinds(do func(k api.Kind)) {
	for form := range 2 {
		for depth := 1; depth <= 16; depth++ {
			do(api.Kind{Form: form, Depth: depth})
		}
	}
}

// Windows.

// windows are how many windows each code that is taken is run on.
const windows = 6

// windowOf answers a window of a kind: of the lowest numbers, of the highest, of both in turn, else a mixture.
func windowOf(k api.Kind, seed uint) api.Window {
	next := draw(seed)
	turn := 0
	from := func(low, high int) int {
		turn++
		switch {
		case seed == 0, seed == 2 && turn%2 == 0:
			return low
		case seed <= 2:
			return high
		case next(3) == 0:
			return []int{low, high}[next(2)]
		}
		return low + next(high-low+1)
	}
	input := func(n int) int {
		s, _ := kind.Input(k, n)
		return from(s.Lo, s.Hi)
	}
	w := api.Window{X: input(api.InX), Y: input(api.InY), C: input(api.InC)}
	for range kind.Count(k) {
		w.P = append(w.P, from(kind.Low(k), kind.High(k)))
	}
	return w
}

// draw answers numbers below n, by a walk that a seed sets.
func draw(seed uint) func(n int) int {
	return func(n int) int {
		seed += 0x9e3779b97f4a7c15
		z := (seed ^ seed>>30) * 0xbf58476d1ce4e5b9
		z = (z ^ z>>27) * 0x94d049bb133111eb
		return int(z>>33) % n
	}
}

// What is asked of Fold.

// marks fill the spare room of lists that are handed in.
var marks = []api.Inst{{Op: -7, A: -7}, {Op: -7, K: -7}, {Op: -7, S: -7}}

// roomy answers a code whose list has spare room, filled with marks, and a function that tells whether all of it still stands.
func roomy(c api.Code) (api.Code, func() bool) {
	list := slices.Concat(c.Insts, marks)
	was := slices.Clone(list)
	return api.Code{Kind: c.Kind, Insts: list[:len(c.Insts)], Out: c.Out}, func() bool { return slices.Equal(list, was) }
}

// modelled holds Fold of any code against the model, and asks all that holds of the answer.
func modelled(t *testing.T, c api.Code, hits applied) (api.Code, api.Errno) {
	t.Helper()
	handed, stands := roomy(c)
	d, e := fold.Fold(handed)
	want, f := model(c, hits)
	if e != f || !code.Same(d, want) {
		t.Errorf("Fold(%s) = %s, %d, not %s, %d", shown(c), shown(d), e, shown(want), f)
		return d, e
	}
	if !stands() {
		t.Errorf("Fold(%s) changed its code", shown(c))
	}
	if e == api.OK {
		passed(t, c, d)
		for seed := range uint(windows) {
			answersAlike(t, c, d, windowOf(c.Kind, seed))
		}
	}
	return d, e
}

// passed asks 14.3 of an answer, but for what it comes to.
func passed(t *testing.T, c, d api.Code) {
	t.Helper()
	was, e := verify.Verify(c)
	is, f := verify.Verify(d)
	if e != api.OK || f != api.OK || is.Cost > was.Cost || len(d.Insts) != len(c.Insts) || d.Kind != c.Kind {
		t.Errorf("Fold(%s) = %s: costs %d and %d, errors %d and %d", shown(c), shown(d), was.Cost, is.Cost, e, f)
		return
	}
	// The registers' spans only narrow: by 5.4 the new code is taken wherever the old one is.
	for i, s := range is.Spans {
		if s.Lo < was.Spans[i].Lo || s.Hi > was.Spans[i].Hi {
			t.Errorf("Fold(%s) = %s: the register %d was %v and is %v", shown(c), shown(d), i, was.Spans[i], s)
		}
	}
	if code.Same(c, d) {
		return
	}
	for i, n := range d.Insts {
		if args := code.Args(n); len(args) > 0 && !slices.ContainsFunc(args, func(r int) bool { return d.Insts[r].Op != api.OpNum }) {
			t.Errorf("Fold(%s) = %s: the instruction %d reads numbers alone", shown(c), shown(d), i)
		}
	}
}

// answersAlike asks that two codes come to the same on a window, in all registers: an instruction that stays or becomes a number keeps its register's meaning.
func answersAlike(t *testing.T, c, d api.Code, w api.Window) {
	t.Helper()
	was, e := code.Values(c, w)
	is, f := code.Values(d, w)
	if e != api.OK || f != api.OK || !slices.Equal(was, is) || was[c.Out] != is[d.Out] {
		t.Errorf("Fold(%s) = %s: on %v they come to %v, %d and %v, %d", shown(c), shown(d), w, was, e, is, f)
	}
}

// becomes asks for the code that Fold answers, both of {Image, 8}, and all that modelled asks.
func becomes(t *testing.T, text, want string) {
	t.Helper()
	becomesFor(t, image, text, want)
}

func becomesFor(t *testing.T, k api.Kind, text, want string) {
	t.Helper()
	d, e := modelled(t, codedFor(k, text), applied{})
	if e != api.OK || !code.Same(d, codedFor(k, want)) {
		t.Errorf("Fold(%v: %s) = %s, %d, not %s", k, text, shown(d), e, want)
	}
}

// stays asks that Fold answers the code as it was.
func stays(t *testing.T, text string) {
	t.Helper()
	becomes(t, text, text)
}

// refused asks for an error with the zero code beside it, and all that modelled asks.
func refused(t *testing.T, c api.Code, want api.Errno) {
	t.Helper()
	d, e := modelled(t, c, applied{})
	if e != want || d.Kind != (api.Kind{}) || len(d.Insts) != 0 || d.Out != 0 {
		t.Errorf("Fold(%s) = %s, %d, not the error %d and the zero code", shown(c), shown(d), e, want)
	}
}
