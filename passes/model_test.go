package passes_test

import (
	"fmt"
	"slices"
	"strconv"
	"strings"
	"testing"

	"damask/api"
	"damask/code"
	"damask/fold"
	"damask/kind"
	"damask/passes"
	"damask/prune"
	"damask/reduce"
	"damask/share"
	"damask/verify"
)

// The ends of the numbers of 32 bits.
const (
	least = -1 << 31
	most  = 1<<31 - 1
)

var (
	image = api.Kind{Form: api.Image, Depth: 8}
	sound = api.Kind{Form: api.Sound, Depth: 16}
)

// Codes as texts: "place 16; num 0; add 0 1; shlk 2 3; out 3" names the operators in small letters, behind each the registers that it reads, and behind these its constants. Without an out the last register is the answer.

// names are the operators, by their numbers.
var names = strings.Fields("none num in place use neg abs sgn add sub mul div mod shl shr and or xor lt le gt ge eq ne min max clamp med sel shlk shrk andk mulk muls")

// reads is how many registers the operators read; what isn't told here reads two.
var reads = map[string]int{"num": 0, "in": 0, "place": 0, "neg": 1, "abs": 1, "sgn": 1, "shlk": 1, "shrk": 1, "andk": 1, "mulk": 1, "muls": 1, "clamp": 3, "med": 3, "sel": 3}

// constants is how many constants the operators have; what isn't told here has none.
var constants = map[string]int{"num": 1, "in": 1, "place": 1, "shlk": 1, "shrk": 1, "andk": 1, "mulk": 1, "muls": 2}

// words are numbers that are written as words.
var words = map[string]int{"least": least, "most": most, "x": 0, "y": 1, "c": 2, "lo": 3, "hi": 4, "mid": 5}

// all are the names of all operators of register code.
var all = slices.DeleteFunc(slices.Clone(names), func(name string) bool { return name == "none" || name == "use" })

func readsOf(name string) int {
	if count, ok := reads[name]; ok {
		return count
	}
	return 2
}

func number(word string) int {
	if x, ok := words[word]; ok {
		return x
	}
	x, e := strconv.Atoi(word)
	if e != nil {
		panic(e)
	}
	return x
}

// inst reads an instruction.
func inst(text string) api.Inst {
	list := strings.Fields(text)
	n := api.Inst{Op: slices.Index(names, list[0])}
	fields := slices.Concat([]*int{&n.A, &n.B, &n.C}[:readsOf(list[0])], []*int{&n.K, &n.S}[:constants[list[0]]])
	if n.Op < 0 || len(list) != 1+len(fields) {
		panic(text)
	}
	for i, field := range fields {
		*field = number(list[1+i])
	}
	return n
}

// codedFor reads a code of a kind.
func codedFor(k api.Kind, text string) api.Code {
	c := api.Code{Kind: k, Out: -1}
	for _, part := range strings.Split(text, ";") {
		if word, out := strings.CutPrefix(strings.TrimSpace(part), "out "); out {
			c.Out = number(word)
			continue
		}
		c.Insts = append(c.Insts, inst(part))
	}
	if c.Out < 0 {
		c.Out = len(c.Insts) - 1
	}
	return c
}

// coded reads a code of {Image, 8}.
func coded(text string) api.Code { return codedFor(image, text) }

// shown writes a code as a text.
func shown(c api.Code) string {
	var list []string
	for _, n := range c.Insts[:min(len(c.Insts), 60)] {
		if n.Op < 1 || n.Op >= len(names) || inst0(n) != n {
			list = append(list, fmt.Sprintf("%+v", n))
			continue
		}
		list = append(list, written(n))
	}
	return fmt.Sprintf("%v: %s; out %d", c.Kind, strings.Join(list, "; "), c.Out)
}

// inst0 answers the instruction with 0 in the fields that its operator hasn't.
func inst0(n api.Inst) api.Inst {
	name := names[n.Op]
	fields := slices.Concat([]*int{&n.A, &n.B, &n.C}[readsOf(name):], []*int{&n.K, &n.S}[constants[name]:])
	for _, field := range fields {
		*field = 0
	}
	return n
}

// written writes an instruction as a text.
func written(n api.Inst) string {
	name := names[n.Op]
	text := name
	for _, x := range slices.Concat([]int{n.A, n.B, n.C}[:readsOf(name)], []int{n.K, n.S}[:constants[name]]) {
		text += fmt.Sprint(" ", x)
	}
	return text
}

// The model of Run: the chapter's words, with the passes' numbers written out and the passes' packages called one behind the other.

// best is the order of Best.
var best = []int{1, 2, 3, 1, 2, 4}

// called answers what the call of the pass of a number does.
func called(pass int, c api.Code) (api.Code, api.Errno) {
	switch pass {
	case 1:
		return fold.Fold(c)
	case 2:
		return share.Share(c)
	case 3:
		return reduce.Reduce(c)
	}
	return prune.Prune(c)
}

// model answers what Run must.
func model(c api.Code, order []int) (api.Code, api.Errno) {
	if len(order) > 16 || slices.ContainsFunc(order, func(n int) bool { return n < 1 || n > 4 }) {
		return api.Code{}, api.ErrInput
	}
	if _, e := verify.Verify(c); e != api.OK {
		return api.Code{}, e
	}
	for _, n := range order {
		d, e := called(n, c)
		if e != api.OK {
			return api.Code{}, e
		}
		c = d
	}
	return c, api.OK
}

// orders answers all orders of up to so many of the four numbers.
func orders(most int) [][]int {
	list := [][]int{nil}
	for from := 0; most > 0; most-- {
		to := len(list)
		for _, order := range list[from:to] {
			for n := 1; n <= 4; n++ {
				list = append(list, append(slices.Clip(order), n))
			}
		}
		from = to
	}
	return list
}

// kinds goes over all kinds that may be.
func kinds(do func(k api.Kind)) {
	for form := range 2 {
		for depth := 1; depth <= 16; depth++ {
			do(api.Kind{Form: form, Depth: depth})
		}
	}
}

// Windows.

// windowOf answers a window of a kind: of the lowest numbers, of the highest, of both in turn, else a mixture.
func windowOf(k api.Kind, seed uint) api.Window {
	next := draw(seed)
	turn := 0
	from := func(low, high int) int {
		turn++
		switch {
		case seed == 0, seed == 2 && turn%2 == 0:
			return low
		case seed <= 2:
			return high
		case next(3) == 0:
			return []int{low, high}[next(2)]
		}
		return low + next(high-low+1)
	}
	input := func(n int) int {
		s, _ := kind.Input(k, n)
		return from(s.Lo, s.Hi)
	}
	w := api.Window{X: input(api.InX), Y: input(api.InY), C: input(api.InC)}
	for range kind.Count(k) {
		w.P = append(w.P, from(kind.Low(k), kind.High(k)))
	}
	return w
}

// windowsOf answers so many windows of a kind.
func windowsOf(k api.Kind, count int) []api.Window {
	var list []api.Window
	for seed := range uint(count) {
		list = append(list, windowOf(k, seed))
	}
	return list
}

// draw answers numbers below n, by a walk that a seed sets.
func draw(seed uint) func(n int) int {
	return func(n int) int {
		seed += 0x9e3779b97f4a7c15
		z := (seed ^ seed>>30) * 0xbf58476d1ce4e5b9
		z = (z ^ z>>27) * 0x94d049bb133111eb
		return int(z>>33) % n
	}
}

// What is asked of Run and Best.

// marks fill the spare room of lists that are handed in.
var (
	marks   = []api.Inst{{Op: -7, A: -7}, {Op: -7, K: -7}, {Op: -7, S: -7}}
	numbers = []int{-71, -72, -73}
)

// roomy answers a code whose list has spare room, filled with marks, and a function that tells whether all of it still stands.
func roomy(c api.Code) (api.Code, func() bool) {
	list := slices.Concat(c.Insts, marks)
	was := slices.Clone(list)
	return api.Code{Kind: c.Kind, Insts: list[:len(c.Insts)], Out: c.Out}, func() bool { return slices.Equal(list, was) }
}

// roomyOrder does so with an order.
func roomyOrder(order []int) ([]int, func() bool) {
	list := slices.Concat(order, numbers)
	was := slices.Clone(list)
	return list[:len(order)], func() bool { return slices.Equal(list, was) }
}

// subject is a code with what is known of it ahead of all passes: its cost, and what it answers on windows. Of one that is refused there is nothing of that.
type subject struct {
	c       api.Code
	cost    int
	on      []api.Window
	answers []int
}

// subjectOf answers a code's subject, on these windows, or on some of its kind.
func subjectOf(t *testing.T, c api.Code, on ...api.Window) subject {
	t.Helper()
	report, e := verify.Verify(c)
	if e != api.OK {
		return subject{c: c}
	}
	if len(on) == 0 {
		on = windowsOf(c.Kind, 6)
	}
	s := subject{c: c, cost: report.Cost, on: on}
	for _, w := range on {
		s.answers = append(s.answers, answer(t, c, w))
	}
	return s
}

// answer answers what a code answers on a window.
func answer(t *testing.T, c api.Code, w api.Window) int {
	t.Helper()
	list, e := code.Values(c, w)
	if e != api.OK {
		t.Fatalf("%s on %v: %d", shown(c), w, e)
	}
	return list[c.Out]
}

// ran holds Run of the code and an order against the model, and asks all that holds of the answer.
func (s subject) ran(t *testing.T, order ...int) (api.Code, api.Errno) {
	t.Helper()
	c, stands := roomy(s.c)
	handed, standsToo := roomyOrder(order)
	d, e := passes.Run(c, handed...)
	want, f := model(s.c, order)
	if e != f || !code.Same(d, want) {
		t.Errorf("Run(%s, %v) = %s, %d, not %s, %d", shown(s.c), order, shown(d), e, shown(want), f)
		return d, e
	}
	if !stands() || !standsToo() {
		t.Errorf("Run(%s, %v) changed what it was handed", shown(s.c), order)
	}
	if e == api.OK {
		s.kept(t, d, order)
	}
	return d, e
}

// bested holds Best of the code against Run of its six, and asks all that is asked of that.
func (s subject) bested(t *testing.T) (api.Code, api.Errno) {
	t.Helper()
	want, f := s.ran(t, best...)
	c, stands := roomy(s.c)
	d, e := passes.Best(c)
	if e != f || !code.Same(d, want) {
		t.Errorf("Best(%s) = %s, %d, not %s, %d", shown(s.c), shown(d), e, shown(want), f)
	}
	if !stands() {
		t.Errorf("Best(%s) changed its code", shown(s.c))
	}
	return d, e
}

// kept asks what 18.3 says of an answer.
func (s subject) kept(t *testing.T, d api.Code, order []int) {
	t.Helper()
	report, e := verify.Verify(d)
	if e != api.OK || d.Kind != s.c.Kind {
		t.Errorf("Run(%s, %v) = %s: the error %d", shown(s.c), order, shown(d), e)
		return
	}
	if report.Cost > s.cost || len(d.Insts) > report.Cost {
		t.Errorf("Run(%s, %v) = %s: the cost was %d and is %d, for %d instructions", shown(s.c), order, shown(d), s.cost, report.Cost, len(d.Insts))
	}
	for i, w := range s.on {
		if got := answer(t, d, w); got != s.answers[i] {
			t.Errorf("Run(%s, %v) = %s: on %v it answers %d, not %d", shown(s.c), order, shown(d), w, got, s.answers[i])
		}
	}
}

// becomes asks for the code that Run answers, both of {Image, 8}, and all that ran asks.
func becomes(t *testing.T, text, want string, order ...int) {
	t.Helper()
	d, e := subjectOf(t, coded(text)).ran(t, order...)
	if e != api.OK || !code.Same(d, coded(want)) {
		t.Errorf("Run(%s, %v) = %s, %d, not %s", text, order, shown(d), e, want)
	}
}

// becomesBest asks so of Best.
func becomesBest(t *testing.T, text, want string) {
	t.Helper()
	d, e := subjectOf(t, coded(text)).bested(t)
	if e != api.OK || !code.Same(d, coded(want)) {
		t.Errorf("Best(%s) = %s, %d, not %s", text, shown(d), e, want)
	}
}

// refused asks for an error of Run with the zero code beside it, and all that ran asks.
func refused(t *testing.T, c api.Code, want api.Errno, order ...int) {
	t.Helper()
	d, e := subjectOf(t, c).ran(t, order...)
	if e != want || d.Kind != (api.Kind{}) || len(d.Insts) != 0 || d.Out != 0 {
		t.Errorf("Run(%s, %v) = %s, %d, not the error %d and the zero code", shown(c), order, shown(d), e, want)
	}
}

// refusedBest asks so of Best.
func refusedBest(t *testing.T, c api.Code, want api.Errno) {
	t.Helper()
	d, e := subjectOf(t, c).bested(t)
	if e != want || d.Kind != (api.Kind{}) || len(d.Insts) != 0 || d.Out != 0 {
		t.Errorf("Best(%s) = %s, %d, not the error %d and the zero code", shown(c), shown(d), e, want)
	}
}
