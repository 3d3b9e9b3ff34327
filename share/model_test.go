package share_test

import (
	"fmt"
	"slices"
	"strconv"
	"strings"
	"testing"

	"damask/api"
	"damask/code"
	"damask/kind"
	"damask/share"
	"damask/verify"
)

// The ends of the numbers of 32 bits.
const (
	least = -1 << 31
	most  = 1<<31 - 1
)

var (
	image = api.Kind{Form: api.Image, Depth: 8}
	sound = api.Kind{Form: api.Sound, Depth: 16}
)

// Codes as texts: "place 16; num 0; add 0 1; shlk 2 3; out 3" names the operators in small letters, behind each the registers that it reads, and behind these its constants. Without an out the last register is the answer.

// names are the operators, by their numbers.
var names = strings.Fields("none num in place use neg abs sgn add sub mul div mod shl shr and or xor lt le gt ge eq ne min max clamp med sel shlk shrk andk mulk muls")

// reads is how many registers the operators read; what isn't told here reads two.
var reads = map[string]int{"num": 0, "in": 0, "place": 0, "neg": 1, "abs": 1, "sgn": 1, "shlk": 1, "shrk": 1, "andk": 1, "mulk": 1, "muls": 1, "clamp": 3, "med": 3, "sel": 3}

// constants is how many constants the operators have; what isn't told here has none.
var constants = map[string]int{"num": 1, "in": 1, "place": 1, "shlk": 1, "shrk": 1, "andk": 1, "mulk": 1, "muls": 2}

// words are numbers that are written as words.
var words = map[string]int{"least": least, "most": most, "x": 0, "y": 1, "c": 2, "lo": 3, "hi": 4, "mid": 5}

// all are the names of all operators of register code.
var all = slices.DeleteFunc(slices.Clone(names), func(name string) bool { return name == "none" || name == "use" })

func readsOf(name string) int {
	if count, ok := reads[name]; ok {
		return count
	}
	return 2
}

func number(word string) int {
	if x, ok := words[word]; ok {
		return x
	}
	x, e := strconv.Atoi(word)
	if e != nil {
		panic(e)
	}
	return x
}

// inst reads an instruction.
func inst(text string) api.Inst {
	list := strings.Fields(text)
	n := api.Inst{Op: slices.Index(names, list[0])}
	fields := slices.Concat([]*int{&n.A, &n.B, &n.C}[:readsOf(list[0])], []*int{&n.K, &n.S}[:constants[list[0]]])
	if n.Op < 0 || len(list) != 1+len(fields) {
		panic(text)
	}
	for i, field := range fields {
		*field = number(list[1+i])
	}
	return n
}

// codedFor reads a code of a kind.
func codedFor(k api.Kind, text string) api.Code {
	c := api.Code{Kind: k, Out: -1}
	for _, part := range strings.Split(text, ";") {
		if word, out := strings.CutPrefix(strings.TrimSpace(part), "out "); out {
			c.Out = number(word)
			continue
		}
		c.Insts = append(c.Insts, inst(part))
	}
	if c.Out < 0 {
		c.Out = len(c.Insts) - 1
	}
	return c
}

// coded reads a code of {Image, 8}.
func coded(text string) api.Code { return codedFor(image, text) }

// shown writes a code as a text.
func shown(c api.Code) string {
	var list []string
	for _, n := range c.Insts[:min(len(c.Insts), 60)] {
		if n.Op < 1 || n.Op >= len(names) || inst0(n) != n {
			list = append(list, fmt.Sprintf("%+v", n))
			continue
		}
		list = append(list, written(n))
	}
	return fmt.Sprintf("%v: %s; out %d", c.Kind, strings.Join(list, "; "), c.Out)
}

// inst0 answers the instruction with 0 in the fields that its operator hasn't.
func inst0(n api.Inst) api.Inst {
	name := names[n.Op]
	fields := slices.Concat([]*int{&n.A, &n.B, &n.C}[readsOf(name):], []*int{&n.K, &n.S}[constants[name]:])
	for _, field := range fields {
		*field = 0
	}
	return n
}

// written writes an instruction as a text.
func written(n api.Inst) string {
	name := names[n.Op]
	text := name
	for _, x := range slices.Concat([]int{n.A, n.B, n.C}[:readsOf(name)], []int{n.K, n.S}[:constants[name]]) {
		text += fmt.Sprint(" ", x)
	}
	return text
}

// The model of Share: the chapter's words, told of lists that are looked through from their beginning.

// ordered are the operators whose registers are ordered.
var ordered = strings.Fields("add mul and or xor eq ne min max")

// seen is how often an instruction was equal to one ahead of it, by operator and by what made it so: nothing, the exchange of registers, the ordering.
type seen map[string]int

// modelOrder answers what Order must.
func modelOrder(n api.Inst) api.Inst {
	if n.Op > 0 && n.Op < len(names) && slices.Contains(ordered, names[n.Op]) {
		list := []int{n.A, n.B}
		slices.Sort(list)
		n.A, n.B = list[0], list[1]
	}
	return n
}

// rewritten answers the new code of the chapter.
func rewritten(c api.Code, hits seen) api.Code {
	d := api.Code{Kind: c.Kind}
	stands := map[int]int{}
	for i, n := range c.Insts {
		was := n
		for _, r := range []*int{&n.A, &n.B, &n.C}[:readsOf(names[n.Op])] {
			*r = stands[*r]
		}
		through := n
		n = modelOrder(n)
		stands[i] = i
		for ahead, m := range d.Insts {
			if m.Op == n.Op && m.A == n.A && m.B == n.B && m.C == n.C && m.K == n.K && m.S == n.S {
				stands[i] = ahead
				hits[names[n.Op]+" "+why(c.Insts[:i], d.Insts, was, through)]++
				break
			}
		}
		d.Insts = append(d.Insts, n)
	}
	d.Out = stands[c.Out]
	return d
}

// why tells what made an instruction equal to one ahead.
func why(old, made []api.Inst, was, through api.Inst) string {
	switch {
	case slices.Contains(old, was):
		return "as it was"
	case slices.Contains(made, through):
		return "exchanged"
	}
	return "ordered"
}

// model answers what Share must.
func model(c api.Code, hits seen) (api.Code, api.Errno) {
	if _, e := verify.Verify(c); e != api.OK {
		return api.Code{}, e
	}
	d := rewritten(c, hits)
	if _, e := verify.Verify(d); e != api.OK {
		return c, api.OK
	}
	return d, api.OK
}

// kinds goes over all kinds that may be.
func kinds(do func(k api.Kind)) {
	for form := range 2 {
		for depth := 1; depth <= 16; depth++ {
			do(api.Kind{Form: form, Depth: depth})
		}
	}
}

// Windows.

// windows are how many windows each code that is taken is run on.
const windows = 6

// windowOf answers a window of a kind: of the lowest numbers, of the highest, of both in turn, else a mixture.
func windowOf(k api.Kind, seed uint) api.Window {
	next := draw(seed)
	turn := 0
	from := func(low, high int) int {
		turn++
		switch {
		case seed == 0, seed == 2 && turn%2 == 0:
			return low
		case seed <= 2:
			return high
		case next(3) == 0:
			return []int{low, high}[next(2)]
		}
		return low + next(high-low+1)
	}
	input := func(n int) int {
		s, _ := kind.Input(k, n)
		return from(s.Lo, s.Hi)
	}
	w := api.Window{X: input(api.InX), Y: input(api.InY), C: input(api.InC)}
	for range kind.Count(k) {
		w.P = append(w.P, from(kind.Low(k), kind.High(k)))
	}
	return w
}

// draw answers numbers below n, by a walk that a seed sets.
func draw(seed uint) func(n int) int {
	return func(n int) int {
		seed += 0x9e3779b97f4a7c15
		z := (seed ^ seed>>30) * 0xbf58476d1ce4e5b9
		z = (z ^ z>>27) * 0x94d049bb133111eb
		return int(z>>33) % n
	}
}

// What is asked of Share.

// marks fill the spare room of lists that are handed in.
var marks = []api.Inst{{Op: -7, A: -7}, {Op: -7, K: -7}, {Op: -7, S: -7}}

// roomy answers a code whose list has spare room, filled with marks, and a function that tells whether all of it still stands.
func roomy(c api.Code) (api.Code, func() bool) {
	list := slices.Concat(c.Insts, marks)
	was := slices.Clone(list)
	return api.Code{Kind: c.Kind, Insts: list[:len(c.Insts)], Out: c.Out}, func() bool { return slices.Equal(list, was) }
}

// modelled holds Share of any code against the model, and asks all that holds of the answer.
func modelled(t *testing.T, c api.Code, hits seen) (api.Code, api.Errno) {
	t.Helper()
	handed, stands := roomy(c)
	d, e := share.Share(handed)
	want, f := model(c, hits)
	if e != f || !code.Same(d, want) {
		t.Errorf("Share(%s) = %s, %d, not %s, %d", shown(c), shown(d), e, shown(want), f)
		return d, e
	}
	if !stands() {
		t.Errorf("Share(%s) changed its code", shown(c))
	}
	if e == api.OK {
		passed(t, c, d)
		readOnce(t, c, d)
		for seed := range uint(windows) {
			answersAlike(t, c, d, windowOf(c.Kind, seed))
		}
	}
	return d, e
}

// passed asks of an answer that it is that of a pass, but for what it comes to.
func passed(t *testing.T, c, d api.Code) {
	t.Helper()
	was, e := verify.Verify(c)
	is, f := verify.Verify(d)
	if e != api.OK || f != api.OK || is.Cost > was.Cost || len(d.Insts) != len(c.Insts) || d.Kind != c.Kind {
		t.Errorf("Share(%s) = %s: costs %d and %d, errors %d and %d", shown(c), shown(d), was.Cost, is.Cost, e, f)
		return
	}
	// The registers' spans stay, since those of equal instructions are equal, and those of what is ordered hang on no order: the new code is taken wherever the old one is.
	if !slices.Equal(is.Spans, was.Spans) {
		t.Errorf("Share(%s) = %s: the spans were %v and are %v", shown(c), shown(d), was.Spans, is.Spans)
	}
	// The operators and constants stay.
	for i, n := range d.Insts {
		n.A, n.B, n.C = c.Insts[i].A, c.Insts[i].B, c.Insts[i].C
		if n != c.Insts[i] {
			t.Errorf("Share(%s) = %s: the instruction %d is another", shown(c), shown(d), i)
		}
	}
}

// readOnce asks that no register is read whose instruction stands ahead already, and that what is shared again stays.
func readOnce(t *testing.T, c, d api.Code) {
	t.Helper()
	read := []int{d.Out}
	for i, n := range d.Insts {
		read = append(read, code.Args(n)...)
		if slices.Contains(ordered, names[n.Op]) && n.A > n.B {
			t.Errorf("Share(%s) = %s: the instruction %d isn't ordered", shown(c), shown(d), i)
		}
	}
	for _, r := range read {
		if slices.Contains(d.Insts[:r], d.Insts[r]) {
			t.Errorf("Share(%s) = %s: the register %d is read, though its instruction stands ahead", shown(c), shown(d), r)
		}
	}
	if again, e := share.Share(d); e != api.OK || !code.Same(again, d) {
		t.Errorf("Share(%s) = %s, and shared again %s, %d", shown(c), shown(d), shown(again), e)
	}
}

// answersAlike asks that two codes come to the same on a window, in all registers: an instruction stays, and reads what comes to the same.
func answersAlike(t *testing.T, c, d api.Code, w api.Window) {
	t.Helper()
	was, e := code.Values(c, w)
	is, f := code.Values(d, w)
	if e != api.OK || f != api.OK || !slices.Equal(was, is) || was[c.Out] != is[d.Out] {
		t.Errorf("Share(%s) = %s: on %v they come to %v, %d and %v, %d", shown(c), shown(d), w, was, e, is, f)
	}
}

// becomes asks for the code that Share answers, both of {Image, 8}, and all that modelled asks.
func becomes(t *testing.T, text, want string) {
	t.Helper()
	becomesFor(t, image, text, want)
}

func becomesFor(t *testing.T, k api.Kind, text, want string) {
	t.Helper()
	d, e := modelled(t, codedFor(k, text), seen{})
	if e != api.OK || !code.Same(d, codedFor(k, want)) {
		t.Errorf("Share(%v: %s) = %s, %d, not %s", k, text, shown(d), e, want)
	}
}

// stays asks that Share answers the code as it was.
func stays(t *testing.T, text string) {
	t.Helper()
	becomes(t, text, text)
}

// refused asks for an error with the zero code beside it, and all that modelled asks.
func refused(t *testing.T, c api.Code, want api.Errno) {
	t.Helper()
	d, e := modelled(t, c, seen{})
	if e != want || d.Kind != (api.Kind{}) || len(d.Insts) != 0 || d.Out != 0 {
		t.Errorf("Share(%s) = %s, %d, not the error %d and the zero code", shown(c), shown(d), e, want)
	}
}
