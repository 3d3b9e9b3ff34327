package prune_test

import (
	"fmt"
	"maps"
	"slices"
	"strconv"
	"strings"
	"testing"

	"damask/api"
	"damask/code"
	"damask/kind"
	"damask/prune"
	"damask/verify"
)

// The ends of the numbers of 32 bits.
const (
	least = -1 << 31
	most  = 1<<31 - 1
)

var (
	image = api.Kind{Form: api.Image, Depth: 8}
	sound = api.Kind{Form: api.Sound, Depth: 16}
)

// Codes as texts: "place 16; num 0; add 0 1; shlk 2 3; out 3" names the operators in small letters, behind each the registers that it reads, and behind these its constants. Without an out the last register is the answer.

// names are the operators, by their numbers.
var names = strings.Fields("none num in place use neg abs sgn add sub mul div mod shl shr and or xor lt le gt ge eq ne min max clamp med sel shlk shrk andk mulk muls")

// reads is how many registers the operators read; what isn't told here reads two.
var reads = map[string]int{"num": 0, "in": 0, "place": 0, "neg": 1, "abs": 1, "sgn": 1, "shlk": 1, "shrk": 1, "andk": 1, "mulk": 1, "muls": 1, "clamp": 3, "med": 3, "sel": 3}

// constants is how many constants the operators have; what isn't told here has none.
var constants = map[string]int{"num": 1, "in": 1, "place": 1, "shlk": 1, "shrk": 1, "andk": 1, "mulk": 1, "muls": 2}

// words are numbers that are written as words.
var words = map[string]int{"least": least, "most": most, "x": 0, "y": 1, "c": 2, "lo": 3, "hi": 4, "mid": 5}

// all are the names of all operators of register code.
var all = slices.DeleteFunc(slices.Clone(names), func(name string) bool { return name == "none" || name == "use" })

func readsOf(name string) int {
	if count, ok := reads[name]; ok {
		return count
	}
	return 2
}

func number(word string) int {
	if x, ok := words[word]; ok {
		return x
	}
	x, e := strconv.Atoi(word)
	if e != nil {
		panic(e)
	}
	return x
}

// inst reads an instruction.
func inst(text string) api.Inst {
	list := strings.Fields(text)
	n := api.Inst{Op: slices.Index(names, list[0])}
	fields := slices.Concat([]*int{&n.A, &n.B, &n.C}[:readsOf(list[0])], []*int{&n.K, &n.S}[:constants[list[0]]])
	if n.Op < 0 || len(list) != 1+len(fields) {
		panic(text)
	}
	for i, field := range fields {
		*field = number(list[1+i])
	}
	return n
}

// codedFor reads a code of a kind.
func codedFor(k api.Kind, text string) api.Code {
	c := api.Code{Kind: k, Out: -1}
	for _, part := range strings.Split(text, ";") {
		if word, out := strings.CutPrefix(strings.TrimSpace(part), "out "); out {
			c.Out = number(word)
			continue
		}
		c.Insts = append(c.Insts, inst(part))
	}
	if c.Out < 0 {
		c.Out = len(c.Insts) - 1
	}
	return c
}

// coded reads a code of {Image, 8}.
func coded(text string) api.Code { return codedFor(image, text) }

// shown writes a code as a text.
func shown(c api.Code) string {
	var list []string
	for _, n := range c.Insts[:min(len(c.Insts), 60)] {
		if n.Op < 1 || n.Op >= len(names) || inst0(n) != n {
			list = append(list, fmt.Sprintf("%+v", n))
			continue
		}
		list = append(list, written(n))
	}
	return fmt.Sprintf("%v: %s; out %d", c.Kind, strings.Join(list, "; "), c.Out)
}

// inst0 answers the instruction with 0 in the fields that its operator hasn't.
func inst0(n api.Inst) api.Inst {
	name := names[n.Op]
	fields := slices.Concat([]*int{&n.A, &n.B, &n.C}[readsOf(name):], []*int{&n.K, &n.S}[constants[name]:])
	for _, field := range fields {
		*field = 0
	}
	return n
}

// written writes an instruction as a text.
func written(n api.Inst) string {
	name := names[n.Op]
	text := name
	for _, x := range slices.Concat([]int{n.A, n.B, n.C}[:readsOf(name)], []int{n.K, n.S}[:constants[name]]) {
		text += fmt.Sprint(" ", x)
	}
	return text
}

// The model of Live and Prune: the chapter's words, told of sets of registers that grow till nothing is left to add.

// seen is how often an operator stayed and went, and how often the registers that it reads were exchanged for others.
type seen map[string]int

// argsOf answers the registers that an instruction of an operator reads.
func argsOf(n api.Inst) []int { return []int{n.A, n.B, n.C}[:readsOf(names[n.Op])] }

// modelLive answers what Live must.
func modelLive(c api.Code) []int {
	if code.Check(c) != api.OK {
		return nil
	}
	live := map[int]bool{c.Out: true}
	for size := 0; size < len(live); {
		size = len(live)
		for i, n := range c.Insts {
			for _, r := range argsOf(n) {
				if live[i] {
					live[r] = true
				}
			}
		}
	}
	return slices.Sorted(maps.Keys(live))
}

// model answers what Prune must.
func model(c api.Code, hits seen) (api.Code, api.Errno) {
	if _, e := verify.Verify(c); e != api.OK {
		return api.Code{}, e
	}
	live := modelLive(c)
	d := api.Code{Kind: c.Kind, Out: slices.Index(live, c.Out)}
	for i, n := range c.Insts {
		name := names[n.Op]
		if !slices.Contains(live, i) {
			hits[name+" went"]++
			continue
		}
		hits[name+" stayed"]++
		var by []int
		for part, r := range []*int{&n.A, &n.B, &n.C}[:readsOf(name)] {
			to := slices.Index(live, *r)
			if by = append(by, *r-to); to != *r {
				hits[fmt.Sprint(name, " exchanged ", part)]++
			}
			*r = to
		}
		if len(slices.Compact(by)) > 1 {
			hits[name+" parted"]++
		}
		d.Insts = append(d.Insts, n)
	}
	return d, api.OK
}

// kinds goes over all kinds that may be.
func kinds(do func(k api.Kind)) {
	for form := range 2 {
		for depth := 1; depth <= 16; depth++ {
			do(api.Kind{Form: form, Depth: depth})
		}
	}
}

// Windows.

// windows are how many windows each code that is taken is run on.
const windows = 6

// windowOf answers a window of a kind: of the lowest numbers, of the highest, of both in turn, else a mixture.
func windowOf(k api.Kind, seed uint) api.Window {
	next := draw(seed)
	turn := 0
	from := func(low, high int) int {
		turn++
		switch {
		case seed == 0, seed == 2 && turn%2 == 0:
			return low
		case seed <= 2:
			return high
		case next(3) == 0:
			return []int{low, high}[next(2)]
		}
		return low + next(high-low+1)
	}
	input := func(n int) int {
		s, _ := kind.Input(k, n)
		return from(s.Lo, s.Hi)
	}
	w := api.Window{X: input(api.InX), Y: input(api.InY), C: input(api.InC)}
	for range kind.Count(k) {
		w.P = append(w.P, from(kind.Low(k), kind.High(k)))
	}
	return w
}

// draw answers numbers below n, by a walk that a seed sets.
func draw(seed uint) func(n int) int {
	return func(n int) int {
		seed += 0x9e3779b97f4a7c15
		z := (seed ^ seed>>30) * 0xbf58476d1ce4e5b9
		z = (z ^ z>>27) * 0x94d049bb133111eb
		return int(z>>33) % n
	}
}

// What is asked of Prune and Live.

// marks fill the spare room of lists that are handed in.
var marks = []api.Inst{{Op: -7, A: -7}, {Op: -7, K: -7}, {Op: -7, S: -7}}

// roomy answers a code whose list has spare room, filled with marks, and a function that tells whether all of it still stands.
func roomy(c api.Code) (api.Code, func() bool) {
	list := slices.Concat(c.Insts, marks)
	was := slices.Clone(list)
	return api.Code{Kind: c.Kind, Insts: list[:len(c.Insts)], Out: c.Out}, func() bool { return slices.Equal(list, was) }
}

// modelled holds Prune and Live of any code against the model, and asks all that holds of the answers.
func modelled(t *testing.T, c api.Code, hits seen) (api.Code, api.Errno) {
	t.Helper()
	handed, stands := roomy(c)
	live := prune.Live(handed)
	if !slices.Equal(live, modelLive(c)) {
		t.Errorf("Live(%s) = %v, not %v", shown(c), live, modelLive(c))
	}
	d, e := prune.Prune(handed)
	want, f := model(c, hits)
	if e != f || !code.Same(d, want) {
		t.Errorf("Prune(%s) = %s, %d, not %s, %d", shown(c), shown(d), e, shown(want), f)
		return d, e
	}
	if !stands() {
		t.Errorf("Prune and Live of %s changed their code", shown(c))
	}
	if e == api.OK {
		passed(t, c, d, live)
		allRead(t, c, d)
		behind(t, c, d)
		for seed := range uint(windows) {
			answersAlike(t, c, d, live, windowOf(c.Kind, seed))
		}
	}
	return d, e
}

// passed asks of an answer that it is that of a pass, but for what it comes to.
func passed(t *testing.T, c, d api.Code, live []int) {
	t.Helper()
	was, e := verify.Verify(c)
	is, f := verify.Verify(d)
	if e != api.OK || f != api.OK || is.Cost > was.Cost || len(d.Insts) > len(c.Insts) || d.Kind != c.Kind {
		t.Errorf("Prune(%s) = %s: costs %d and %d, errors %d and %d", shown(c), shown(d), was.Cost, is.Cost, e, f)
		return
	}
	for i, r := range live {
		// The spans of what is left stay, and so the new code is taken wherever the old one is.
		if is.Spans[i] != was.Spans[r] {
			t.Errorf("Prune(%s) = %s: the span of %d was %v, that of %d is %v", shown(c), shown(d), r, was.Spans[r], i, is.Spans[i])
		}
		// The operators and constants stay.
		n := d.Insts[i]
		n.A, n.B, n.C = c.Insts[r].A, c.Insts[r].B, c.Insts[r].C
		if n != c.Insts[r] {
			t.Errorf("Prune(%s) = %s: the instruction %d isn't that of %d", shown(c), shown(d), i, r)
		}
	}
}

// allRead asks that each register of an answer is read or is its Out, which stands last, and that pruned again it stays.
func allRead(t *testing.T, c, d api.Code) {
	t.Helper()
	last := len(d.Insts) - 1
	read := make([]bool, len(d.Insts))
	for _, n := range d.Insts {
		for _, r := range argsOf(n) {
			read[r] = true
		}
	}
	if d.Out != last || slices.Contains(read[:last], false) {
		t.Errorf("Prune(%s) = %s: which registers are read: %v", shown(c), shown(d), read)
	}
	if again, e := prune.Prune(d); e != api.OK || !code.Same(again, d) {
		t.Errorf("Prune(%s) = %s, and pruned again %s, %d", shown(c), shown(d), shown(again), e)
	}
	if live := prune.Live(d); len(live) != len(d.Insts) || live[0] != 0 || live[last] != last {
		t.Errorf("Prune(%s) = %s: Live of that is %v", shown(c), shown(d), live)
	}
}

// behind asks that what stands behind the answer's instruction doesn't matter: nothing, or other instructions, as long as the code is taken.
func behind(t *testing.T, c, d api.Code) {
	t.Helper()
	upTo := slices.Clip(c.Insts[:c.Out+1])
	for _, tail := range [][]api.Inst{nil, {{Op: api.OpNum, K: 7}}, {{Op: api.OpSgn, A: c.Out}, {Op: api.OpLt, A: c.Out, B: c.Out + 1}, {Op: api.OpSel, A: c.Out + 2, B: 0, C: c.Out}}} {
		other := api.Code{Kind: c.Kind, Insts: append(upTo, tail...), Out: c.Out}
		if _, e := verify.Verify(other); e != api.OK {
			continue
		}
		if got, e := prune.Prune(other); e != api.OK || !code.Same(got, d) {
			t.Errorf("Prune(%s) = %s, %d, not %s", shown(other), shown(got), e, shown(d))
		}
	}
}

// answersAlike asks that two codes come to the same on a window, in Out and in each register that is left.
func answersAlike(t *testing.T, c, d api.Code, live []int, w api.Window) {
	t.Helper()
	was, e := code.Values(c, w)
	is, f := code.Values(d, w)
	if e != api.OK || f != api.OK || was[c.Out] != is[d.Out] {
		t.Errorf("Prune(%s) = %s: on %v they come to %v, %d and %v, %d", shown(c), shown(d), w, was, e, is, f)
		return
	}
	for i, r := range live {
		if is[i] != was[r] {
			t.Errorf("Prune(%s) = %s: on %v the register %d came to %d, and %d comes to %d", shown(c), shown(d), w, r, was[r], i, is[i])
		}
	}
}

// becomes asks for the code that Prune answers, both of {Image, 8}, and all that modelled asks.
func becomes(t *testing.T, text, want string) {
	t.Helper()
	becomesFor(t, image, text, want)
}

func becomesFor(t *testing.T, k api.Kind, text, want string) {
	t.Helper()
	d, e := modelled(t, codedFor(k, text), seen{})
	if e != api.OK || !code.Same(d, codedFor(k, want)) {
		t.Errorf("Prune(%v: %s) = %s, %d, not %s", k, text, shown(d), e, want)
	}
}

// stays asks that Prune answers the code as it was.
func stays(t *testing.T, text string) {
	t.Helper()
	becomes(t, text, text)
}

// refused asks for an error with the zero code beside it, that Live tells nothing just where the code may not be, and all that modelled asks.
func refused(t *testing.T, c api.Code, want api.Errno) {
	t.Helper()
	d, e := modelled(t, c, seen{})
	if e != want || d.Kind != (api.Kind{}) || len(d.Insts) != 0 || d.Out != 0 {
		t.Errorf("Prune(%s) = %s, %d, not the error %d and the zero code", shown(c), shown(d), e, want)
	}
	if live := prune.Live(c); (len(live) == 0) != (want == api.ErrCode) {
		t.Errorf("Live(%s) = %v, where Prune answers %d", shown(c), live, want)
	}
}

// lives asks for the registers that Live answers of a code of {Image, 8}, written as a text, and all that modelled asks.
func lives(t *testing.T, text, want string) {
	t.Helper()
	c := coded(text)
	modelled(t, c, seen{})
	if got := fmt.Sprint(prune.Live(c)); got != "["+want+"]" {
		t.Errorf("Live(%s) = %s, not %s", text, got, want)
	}
}
