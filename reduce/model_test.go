package reduce_test

import (
	"fmt"
	"math/big"
	"slices"
	"strconv"
	"strings"
	"testing"

	"damask/api"
	"damask/code"
	"damask/kind"
	"damask/reduce"
	"damask/verify"
)

// The ends of the numbers of 32 bits.
const (
	least = -1 << 31
	most  = 1<<31 - 1
)

var (
	image = api.Kind{Form: api.Image, Depth: 8}
	sound = api.Kind{Form: api.Sound, Depth: 16}
)

// Codes as texts: "place 16; num 0; add 0 1; shlk 2 3; out 3" names the operators in small letters, behind each the registers that it reads, and behind these its constants. Without an out the last register is the answer.

// names are the operators, by their numbers.
var names = strings.Fields("none num in place use neg abs sgn add sub mul div mod shl shr and or xor lt le gt ge eq ne min max clamp med sel shlk shrk andk mulk muls")

// reads is how many registers the operators read; what isn't told here reads two.
var reads = map[string]int{"num": 0, "in": 0, "place": 0, "neg": 1, "abs": 1, "sgn": 1, "shlk": 1, "shrk": 1, "andk": 1, "mulk": 1, "muls": 1, "clamp": 3, "med": 3, "sel": 3}

// constants is how many constants the operators have; what isn't told here has none.
var constants = map[string]int{"num": 1, "in": 1, "place": 1, "shlk": 1, "shrk": 1, "andk": 1, "mulk": 1, "muls": 2}

// words are numbers that are written as words.
var words = map[string]int{"least": least, "most": most, "x": 0, "y": 1, "c": 2, "lo": 3, "hi": 4, "mid": 5}

// all are the names of all operators of register code.
var all = slices.DeleteFunc(slices.Clone(names), func(name string) bool { return name == "none" || name == "use" })

func readsOf(name string) int {
	if count, ok := reads[name]; ok {
		return count
	}
	return 2
}

func number(word string) int {
	if x, ok := words[word]; ok {
		return x
	}
	x, e := strconv.Atoi(word)
	if e != nil {
		panic(e)
	}
	return x
}

// inst reads an instruction.
func inst(text string) api.Inst {
	list := strings.Fields(text)
	n := api.Inst{Op: slices.Index(names, list[0])}
	fields := slices.Concat([]*int{&n.A, &n.B, &n.C}[:readsOf(list[0])], []*int{&n.K, &n.S}[:constants[list[0]]])
	if n.Op < 0 || len(list) != 1+len(fields) {
		panic(text)
	}
	for i, field := range fields {
		*field = number(list[1+i])
	}
	return n
}

// codedFor reads a code of a kind.
func codedFor(k api.Kind, text string) api.Code {
	c := api.Code{Kind: k, Out: -1}
	for _, part := range strings.Split(text, ";") {
		if word, out := strings.CutPrefix(strings.TrimSpace(part), "out "); out {
			c.Out = number(word)
			continue
		}
		c.Insts = append(c.Insts, inst(part))
	}
	if c.Out < 0 {
		c.Out = len(c.Insts) - 1
	}
	return c
}

// coded reads a code of {Image, 8}.
func coded(text string) api.Code { return codedFor(image, text) }

// shown writes a code as a text.
func shown(c api.Code) string {
	var list []string
	for _, n := range c.Insts[:min(len(c.Insts), 60)] {
		if n.Op < 1 || n.Op >= len(names) || inst0(n) != n {
			list = append(list, fmt.Sprintf("%+v", n))
			continue
		}
		list = append(list, written(n))
	}
	return fmt.Sprintf("%v: %s; out %d", c.Kind, strings.Join(list, "; "), c.Out)
}

// inst0 answers the instruction with 0 in the fields that its operator hasn't.
func inst0(n api.Inst) api.Inst {
	name := names[n.Op]
	fields := slices.Concat([]*int{&n.A, &n.B, &n.C}[readsOf(name):], []*int{&n.K, &n.S}[constants[name]:])
	for _, field := range fields {
		*field = 0
	}
	return n
}

// written writes an instruction as a text.
func written(n api.Inst) string {
	name := names[n.Op]
	text := name
	for _, x := range slices.Concat([]int{n.A, n.B, n.C}[:readsOf(name)], []int{n.K, n.S}[:constants[name]]) {
		text += fmt.Sprint(" ", x)
	}
	return text
}

// The model of Reduce: the chapter's table told as texts. In these A and B are the new registers of what is read, @1, @2 and so on the instructions written for one.

// used is how often each line of the table was used.
type used map[string]int

// modelPower answers what Power must.
func modelPower(k int) int {
	for n, x := 0, 1; n <= 30; n, x = n+1, x+x {
		if x == k {
			return n
		}
	}
	return -1
}

// modelMagic answers what Magic must: the chapter's words, told with numbers without end.
func modelMagic(size, divisor int) (int, int, bool) {
	if divisor < 2 || divisor > most || size < 0 || size > -least {
		return 0, 0, false
	}
	limit := new(big.Int).Lsh(big.NewInt(1), 62)
	wide, d := big.NewInt(int64(size)), big.NewInt(int64(divisor))
	for s := 0; s <= 62; s++ {
		power := new(big.Int).Exp(big.NewInt(2), big.NewInt(int64(s)), nil)
		k := new(big.Int).Quo(power, d)
		k.Add(k, big.NewInt(1))
		if new(big.Int).Mul(k, wide).Cmp(limit) > 0 {
			return 0, 0, false
		}
		over := new(big.Int).Mul(k, d)
		over.Sub(over, power)
		if over.Mul(over, wide).Cmp(power) < 0 {
			return int(k.Int64()), s, true
		}
	}
	return 0, 0, false
}

// timesText writes a register times a number.
func timesText(r string, k int) string {
	if n := modelPower(k); n >= 0 {
		return fmt.Sprintf("shlk %s %d", r, n)
	}
	return fmt.Sprintf("mulk %s %d", r, k)
}

// quotientText writes A divided by a number, of how many instructions that is, and by which of the lines; none, if the number doesn't divide quickly.
func quotientText(a api.Span, d int) (text string, count int, line string) {
	n := modelPower(d)
	k, s, ok := modelMagic(max(-a.Lo, a.Hi), d)
	switch {
	case n > 0 && a.Lo >= 0:
		return fmt.Sprintf("shrk A %d", n), 1, "shift"
	case n > 0 && a.Hi+d-1 <= most:
		return fmt.Sprintf("shrk A 31; andk @1 %d; add A @2; shrk @3 %d", d-1, n), 4, "shift with a sign"
	case n > 0:
		return "", 0, "no room"
	case ok && a.Lo >= 0:
		return fmt.Sprintf("muls A %d %d", k, s), 1, "product"
	case ok:
		return fmt.Sprintf("muls A %d %d; shrk A 31; sub @1 @2", k, s), 3, "product with a sign"
	}
	return "", 0, "no magic"
}

// table answers what the table tells to write for an instruction of a code with these spans, and by which line; no text: it stays.
func table(c api.Code, spans []api.Span, n api.Inst) (text, line string) {
	first, second, a := c.Insts[n.A], c.Insts[n.B], spans[n.A]
	inA, inB := names[first.Op] == "num", names[second.Op] == "num"
	name := names[n.Op]
	switch {
	case name == "mul" && inB:
		return timesText("A", second.K), "mul B"
	case name == "mul" && inA:
		return timesText("B", first.K), "mul A"
	case name == "and" && inB && second.K >= 0:
		return fmt.Sprint("andk A ", second.K), "and B"
	case name == "and" && inA && first.K >= 0:
		return fmt.Sprint("andk B ", first.K), "and A"
	case (name == "shl" || name == "shr") && inB:
		return fmt.Sprint(name, "k A ", second.K), name
	case name == "div" && inB:
		text, _, line = quotientText(a, second.K)
		return text, "div " + line
	case name == "mod" && inB && modelPower(second.K) > 0 && a.Lo >= 0:
		return fmt.Sprint("andk A ", second.K-1), "mod mask"
	case name == "mod" && inB:
		text, count, line := quotientText(a, second.K)
		if text != "" {
			text = fmt.Sprintf("%s; %s; sub A @%d", text, timesText(fmt.Sprint("@", count), second.K), count+1)
		}
		return text, "mod " + line
	}
	return "", name
}

// laid answers the instructions of a text of the table, with registers in the place of A, B, @1 and so on.
func laid(text string, a, b, next int) []api.Inst {
	pairs := []string{" A", fmt.Sprint(" ", a), " B", fmt.Sprint(" ", b)}
	for i := range 9 {
		pairs = append(pairs, fmt.Sprint(" @", i+1), fmt.Sprint(" ", next+i))
	}
	var list []api.Inst
	for _, part := range strings.Split(strings.NewReplacer(pairs...).Replace(text), ";") {
		list = append(list, inst(part))
	}
	return list
}

// rewritten answers the new code of the chapter, and the new register of each old one.
func rewritten(c api.Code, spans []api.Span, lines used) (api.Code, []int) {
	d := api.Code{Kind: c.Kind}
	var to []int
	for _, n := range c.Insts {
		text, line := table(c, spans, n)
		if lines[line]++; text == "" {
			for _, r := range []*int{&n.A, &n.B, &n.C}[:readsOf(names[n.Op])] {
				*r = to[*r]
			}
			d.Insts = append(d.Insts, n)
		} else {
			d.Insts = append(d.Insts, laid(text, to[n.A], to[n.B], len(d.Insts))...)
		}
		to = append(to, len(d.Insts)-1)
	}
	d.Out = to[c.Out]
	return d, to
}

// model answers what Reduce must, and the new register of each old one.
func model(c api.Code, lines used) (api.Code, []int, api.Errno) {
	report, e := verify.Verify(c)
	if e != api.OK {
		return api.Code{}, nil, e
	}
	d, to := rewritten(c, report.Spans, used{})
	if _, e := verify.Verify(d); e != api.OK {
		lines[fmt.Sprint("refused ", e)]++
		var own []int
		for i := range c.Insts {
			own = append(own, i)
		}
		return c, own, api.OK
	}
	rewritten(c, report.Spans, lines)
	return d, to, api.OK
}

// kinds goes over all kinds that may be.
func kinds(do func(k api.Kind)) {
	for form := range 2 {
		for depth := 1; depth <= 16; depth++ {
			do(api.Kind{Form: form, Depth: depth})
		}
	}
}

// Windows.

// windows are how many windows each code that is taken is run on.
const windows = 6

// windowOf answers a window of a kind: of the lowest numbers, of the highest, of both in turn, else a mixture.
func windowOf(k api.Kind, seed uint) api.Window {
	next := draw(seed)
	turn := 0
	from := func(low, high int) int {
		turn++
		switch {
		case seed == 0, seed == 2 && turn%2 == 0:
			return low
		case seed <= 2:
			return high
		case next(3) == 0:
			return []int{low, high}[next(2)]
		}
		return low + next(high-low+1)
	}
	input := func(n int) int {
		s, _ := kind.Input(k, n)
		return from(s.Lo, s.Hi)
	}
	w := api.Window{X: input(api.InX), Y: input(api.InY), C: input(api.InC)}
	for range kind.Count(k) {
		w.P = append(w.P, from(kind.Low(k), kind.High(k)))
	}
	return w
}

// draw answers numbers below n, by a walk that a seed sets.
func draw(seed uint) func(n int) int {
	return func(n int) int {
		seed += 0x9e3779b97f4a7c15
		z := (seed ^ seed>>30) * 0xbf58476d1ce4e5b9
		z = (z ^ z>>27) * 0x94d049bb133111eb
		return int(z>>33) % n
	}
}

// within writes a code of {Sound, 16} whose last register, the number 8, has the span from lo to hi; on the window at(x) it comes to x.
func within(lo, hi int) string {
	return fmt.Sprintf("place 0; shlk 0 16; place 1; andk 2 65535; add 1 3; num %d; max 4 5; num %d; min 6 7", lo, hi)
}

// at answers a window of {Sound, 16}.
func at(x int) api.Window {
	w := api.Window{P: make([]int, kind.Count(sound))}
	w.P[0], w.P[1] = x>>16, int(int16(x))
	return w
}

// What is asked of Reduce.

// marks fill the spare room of lists that are handed in.
var marks = []api.Inst{{Op: -7, A: -7}, {Op: -7, K: -7}, {Op: -7, S: -7}}

// roomy answers a code whose list has spare room, filled with marks, and a function that tells whether all of it still stands.
func roomy(c api.Code) (api.Code, func() bool) {
	list := slices.Concat(c.Insts, marks)
	was := slices.Clone(list)
	return api.Code{Kind: c.Kind, Insts: list[:len(c.Insts)], Out: c.Out}, func() bool { return slices.Equal(list, was) }
}

// modelled holds Reduce of any code against the model, and asks all that holds of the answer, on these windows and on others.
func modelled(t *testing.T, c api.Code, lines used, on ...api.Window) (api.Code, api.Errno) {
	t.Helper()
	handed, stands := roomy(c)
	d, e := reduce.Reduce(handed)
	want, to, f := model(c, lines)
	if e != f || !code.Same(d, want) {
		t.Errorf("Reduce(%s) = %s, %d, not %s, %d", shown(c), shown(d), e, shown(want), f)
		return d, e
	}
	if !stands() {
		t.Errorf("Reduce(%s) changed its code", shown(c))
	}
	if e == api.OK {
		passed(t, c, d)
		for seed := range uint(windows) {
			on = append(on, windowOf(c.Kind, seed))
		}
		for _, w := range on {
			answersAlike(t, c, d, to, w)
		}
	}
	return d, e
}

// passed asks of an answer that it is that of a pass, but for what it comes to.
func passed(t *testing.T, c, d api.Code) {
	t.Helper()
	was, e := verify.Verify(c)
	is, f := verify.Verify(d)
	if e != api.OK || f != api.OK || is.Cost > was.Cost || len(d.Insts) > was.Cost || d.Kind != c.Kind {
		t.Errorf("Reduce(%s) = %s: costs %d and %d, errors %d and %d", shown(c), shown(d), was.Cost, is.Cost, e, f)
	}
}

// answersAlike asks that two codes come to the same on a window, in Out and in each old register and its new one.
func answersAlike(t *testing.T, c, d api.Code, to []int, w api.Window) {
	t.Helper()
	was, e := code.Values(c, w)
	is, f := code.Values(d, w)
	if e != api.OK || f != api.OK || was[c.Out] != is[d.Out] {
		t.Errorf("Reduce(%s) = %s: on %v they come to %v, %d and %v, %d", shown(c), shown(d), w, was, e, is, f)
		return
	}
	for i, x := range was {
		if is[to[i]] != x {
			t.Errorf("Reduce(%s) = %s: on %v the register %d came to %d, and comes to %d", shown(c), shown(d), w, i, x, is[to[i]])
		}
	}
}

// becomes asks for the code that Reduce answers, both of {Image, 8}, and all that modelled asks.
func becomes(t *testing.T, text, want string) {
	t.Helper()
	becomesFor(t, image, text, want)
}

func becomesFor(t *testing.T, k api.Kind, text, want string, on ...api.Window) {
	t.Helper()
	d, e := modelled(t, codedFor(k, text), used{}, on...)
	if e != api.OK || !code.Same(d, codedFor(k, want)) {
		t.Errorf("Reduce(%v: %s) = %s, %d, not %s", k, text, shown(d), e, want)
	}
}

// stays asks that Reduce answers the code as it was.
func stays(t *testing.T, text string) {
	t.Helper()
	becomes(t, text, text)
}

// refused asks for an error with the zero code beside it, and all that modelled asks.
func refused(t *testing.T, c api.Code, want api.Errno) {
	t.Helper()
	d, e := modelled(t, c, used{})
	if e != want || d.Kind != (api.Kind{}) || len(d.Insts) != 0 || d.Out != 0 {
		t.Errorf("Reduce(%s) = %s, %d, not the error %d and the zero code", shown(c), shown(d), e, want)
	}
}
