package pack_test

import (
	"bytes"
	"encoding/binary"
	"fmt"
	"math/big"
	"slices"
	"strconv"
	"strings"
	"testing"

	"damask/api"
	"damask/code"
	"damask/pack"
)

// The ends of the numbers of 32 bits.
const (
	least = -1 << 31
	most  = 1<<31 - 1
)

var (
	image = api.Kind{Form: api.Image, Depth: 8}
	sound = api.Kind{Form: api.Sound, Depth: 16}
)

// Codes as texts: "place 16; num 0; add 0 1; shlk 2 3; out 3" names the operators in small letters, behind each the registers that it reads, and behind these its constants. Without an out the last register is the answer.

// names are the operators, by their numbers.
var names = strings.Fields("none num in place use neg abs sgn add sub mul div mod shl shr and or xor lt le gt ge eq ne min max clamp med sel shlk shrk andk mulk muls")

// reads is how many registers the operators read; what isn't told here reads two.
var reads = map[string]int{"num": 0, "in": 0, "place": 0, "neg": 1, "abs": 1, "sgn": 1, "shlk": 1, "shrk": 1, "andk": 1, "mulk": 1, "muls": 1, "clamp": 3, "med": 3, "sel": 3}

// ways is how the operators' constants are written: b a byte, u a number from 0 on, i any number; what isn't told here has none.
var ways = map[string]string{"num": "i", "in": "b", "place": "b", "shlk": "b", "shrk": "b", "andk": "u", "mulk": "i", "muls": "ub"}

// bounds are the least and the greatest constants of the operators.
var bounds = map[string][2][]int{"num": {{least}, {most}}, "in": {{0}, {5}}, "place": {{0}, {255}}, "shlk": {{0}, {31}}, "shrk": {{0}, {31}}, "andk": {{0}, {most}}, "mulk": {{least}, {most}}, "muls": {{1, 0}, {1 << 62, 62}}}

// words are numbers that are written as words.
var words = map[string]int{"least": least, "most": most}

// all are the names of all operators of register code.
var all = slices.DeleteFunc(slices.Clone(names), func(name string) bool { return name == "none" || name == "use" })

func readsOf(name string) int {
	if count, ok := reads[name]; ok {
		return count
	}
	return 2
}

func number(word string) int {
	if x, ok := words[word]; ok {
		return x
	}
	x, e := strconv.Atoi(word)
	if e != nil {
		panic(e)
	}
	return x
}

// inst reads an instruction.
func inst(text string) api.Inst {
	list := strings.Fields(text)
	n := api.Inst{Op: slices.Index(names, list[0])}
	fields := slices.Concat([]*int{&n.A, &n.B, &n.C}[:readsOf(list[0])], []*int{&n.K, &n.S}[:len(ways[list[0]])])
	if n.Op < 0 || len(list) != 1+len(fields) {
		panic(text)
	}
	for i, field := range fields {
		*field = number(list[1+i])
	}
	return n
}

// codedFor reads a code of a kind.
func codedFor(k api.Kind, text string) api.Code {
	c := api.Code{Kind: k, Out: -1}
	for _, part := range strings.Split(text, ";") {
		if word, out := strings.CutPrefix(strings.TrimSpace(part), "out "); out {
			c.Out = number(word)
			continue
		}
		c.Insts = append(c.Insts, inst(part))
	}
	if c.Out < 0 {
		c.Out = len(c.Insts) - 1
	}
	return c
}

// coded reads a code of {Image, 8}.
func coded(text string) api.Code { return codedFor(image, text) }

// shown writes a code.
func shown(c api.Code) string {
	dots := ""
	if len(c.Insts) > 12 {
		dots = fmt.Sprintf(" and others, %d in all", len(c.Insts))
	}
	return fmt.Sprintf("%v: %v%s; out %d", c.Kind, c.Insts[:min(len(c.Insts), 12)], dots, c.Out)
}

// hexed writes bytes.
func hexed(b []byte) string {
	if len(b) > 60 {
		return fmt.Sprintf("% x and others, %d in all", b[:60], len(b))
	}
	return fmt.Sprintf("% x", b)
}

// octets reads bytes from a text: "1 0 8, 0xc9 1".
func octets(text string) []byte {
	var b []byte
	for _, word := range strings.Fields(strings.ReplaceAll(text, ",", " ")) {
		x, e := strconv.ParseUint(word, 0, 8)
		if e != nil {
			panic(e)
		}
		b = append(b, byte(x))
	}
	return b
}

// The model of Encode: a code is a row of fields, each written in its way.

// field is a part of a code's bytes.
type field struct {
	way rune // b, u or i
	n   int
}

// fieldsOf answers the fields of a code, in their order.
func fieldsOf(c api.Code) []field {
	list := []field{{'b', 1}, {'b', c.Kind.Form}, {'b', c.Kind.Depth}, {'u', len(c.Insts)}}
	for i, n := range c.Insts {
		list = append(list, field{'b', n.Op})
		if n.Op < 0 || n.Op >= len(names) || !slices.Contains(all, names[n.Op]) {
			continue
		}
		for _, r := range []int{n.A, n.B, n.C}[:readsOf(names[n.Op])] {
			list = append(list, field{'u', i - 1 - r})
		}
		for j, way := range ways[names[n.Op]] {
			list = append(list, field{way, []int{n.K, n.S}[j]})
		}
	}
	return append(list, field{'u', len(c.Insts) - 1 - c.Out})
}

// bytes answers a field's bytes; of a number below 0 that is to be one from 0 on these are ten bytes that are none's.
func (f field) bytes() []byte {
	switch f.way {
	case 'u':
		return binary.AppendUvarint(nil, uint64(f.n))
	case 'i':
		return binary.AppendVarint(nil, int64(f.n))
	}
	return []byte{byte(f.n)}
}

// put answers the bytes of fields with others in the place of those of the field at.
func put(list []field, at int, instead []byte) []byte {
	var b []byte
	for i, f := range list {
		if i == at {
			b = append(b, instead...)
			continue
		}
		b = append(b, f.bytes()...)
	}
	return b
}

// bytesOf answers the bytes of a code, also of one that may not be, if its numbers can be written.
func bytesOf(c api.Code) []byte { return put(fieldsOf(c), -1, nil) }

// modelEncode answers what Encode must.
func modelEncode(c api.Code) ([]byte, api.Errno) {
	if e := modelCheck(c); e != api.OK {
		return nil, e
	}
	return bytesOf(c), api.OK
}

// modelCheck answers what code.Check must.
func modelCheck(c api.Code) api.Errno {
	k, count := c.Kind, len(c.Insts)
	if k.Form < 0 || k.Form > 1 || k.Depth < 1 || k.Depth > 16 || count < 1 || count > 200 || c.Out < 0 || c.Out >= count {
		return api.ErrCode
	}
	for i, n := range c.Insts {
		if n.Op < 1 || n.Op >= len(names) || !slices.Contains(all, names[n.Op]) {
			return api.ErrCode
		}
		name := names[n.Op]
		low, high := []int{0, 0, 0, 0, 0}, []int{0, 0, 0, 0, 0}
		for part := range readsOf(name) {
			high[part] = i - 1
		}
		copy(low[3:], bounds[name][0])
		copy(high[3:], bounds[name][1])
		for j, x := range []int{n.A, n.B, n.C, n.K, n.S} {
			if x < low[j] || x > high[j] {
				return api.ErrCode
			}
		}
	}
	return api.OK
}

// The model of Decode: the chapter's words, in their order, told by a cursor that gives up by panic; numbers have no bounds.

type cursor struct {
	b  []byte
	at int
}

func (r *cursor) byte() int {
	if r.at == len(r.b) {
		panic(api.ErrShort)
	}
	r.at++
	return int(r.b[r.at-1])
}

func (r *cursor) varint() *big.Int {
	sum := new(big.Int)
	for i := 0; ; i++ {
		x := r.byte()
		if i == 9 && x > 1 {
			panic(api.ErrForm)
		}
		sum.Add(sum, new(big.Int).Lsh(big.NewInt(int64(x%128)), uint(7*i)))
		if x >= 128 {
			continue
		}
		if x == 0 && i > 0 {
			panic(api.ErrForm)
		}
		return sum
	}
}

// number reads a number that is written in a way.
func (r *cursor) number(way rune) int {
	if way == 'b' {
		return r.byte()
	}
	x := r.varint()
	if way == 'i' && x.Bit(0) == 1 {
		x.Neg(x.Rsh(x.Add(x, big.NewInt(1)), 1))
	} else if way == 'i' {
		x.Rsh(x, 1)
	}
	if !x.IsInt64() {
		panic(api.ErrForm)
	}
	return int(x.Int64())
}

// register reads how far a register stands ahead, as seen from the number i.
func (r *cursor) register(i int) int {
	if far := r.number('u'); far < i {
		return i - 1 - far
	}
	panic(api.ErrCode)
}

func (r *cursor) inst(i int) api.Inst {
	n := api.Inst{Op: r.byte()}
	if n.Op >= len(names) || !slices.Contains(all, names[n.Op]) {
		return n
	}
	for _, to := range []*int{&n.A, &n.B, &n.C}[:readsOf(names[n.Op])] {
		*to = r.register(i)
	}
	for j, way := range ways[names[n.Op]] {
		*[]*int{&n.K, &n.S}[j] = r.number(way)
	}
	return n
}

// modelDecode answers what Decode must.
func modelDecode(b []byte) (c api.Code, e api.Errno) {
	defer func() {
		if x := recover(); x != nil {
			c, e = api.Code{}, x.(api.Errno)
		}
	}()
	if len(b) > 4096 {
		panic(api.ErrLimit)
	}
	r := &cursor{b: b}
	if r.byte() != 1 {
		panic(api.ErrForm)
	}
	c.Kind.Form = r.byte()
	c.Kind.Depth = r.byte()
	count := r.number('u')
	if count < 1 || count > 200 {
		panic(api.ErrCode)
	}
	for i := range count {
		c.Insts = append(c.Insts, r.inst(i))
	}
	c.Out = r.register(count)
	if r.at < len(b) {
		panic(api.ErrTail)
	}
	if f := modelCheck(c); f != api.OK {
		panic(f)
	}
	return c, api.OK
}

// draw answers numbers below n, by a walk that a seed sets.
func draw(seed uint) func(n int) int {
	return func(n int) int {
		seed += 0x9e3779b97f4a7c15
		z := (seed ^ seed>>30) * 0xbf58476d1ce4e5b9
		z = (z ^ z>>27) * 0x94d049bb133111eb
		return int(z>>33) % n
	}
}

// What is asked of Encode and Decode.

// marks fill the spare room of lists that are handed in.
var (
	marks  = []api.Inst{{Op: -7, A: -7}, {Op: -7, K: -7}, {Op: -7, S: -7}}
	spared = []byte{0xa5, 0x5a, 0, 1, 0xa5}
)

// roomy answers a code whose list has spare room, filled with marks, and a function that tells whether all of it still stands.
func roomy(c api.Code) (api.Code, func() bool) {
	list := slices.Concat(c.Insts, marks)
	was := slices.Clone(list)
	return api.Code{Kind: c.Kind, Insts: list[:len(c.Insts)], Out: c.Out}, func() bool { return slices.Equal(list, was) }
}

// roomyBytes does so with bytes.
func roomyBytes(b []byte) ([]byte, func() bool) {
	list := slices.Concat(b, spared)
	was := slices.Clone(list)
	return list[:len(b)], func() bool { return bytes.Equal(list, was) }
}

// encoded holds Encode of any code against the model, and asks 19.3 of the bytes.
func encoded(t *testing.T, c api.Code) ([]byte, api.Errno) {
	t.Helper()
	d, stands := roomy(c)
	b, e := pack.Encode(d)
	if want, f := modelEncode(c); e != f || !bytes.Equal(b, want) {
		t.Errorf("Encode(%s) = %s, %d, not %s, %d", shown(c), hexed(b), e, hexed(want), f)
		return b, e
	}
	if !stands() {
		t.Errorf("Encode(%s) changed its code", shown(c))
	}
	if e != api.OK {
		return b, e
	}
	if len(b) > api.MaxCode {
		t.Errorf("Encode(%s): %d bytes", shown(c), len(b))
	}
	if back, f := pack.Decode(b); f != api.OK || !code.Same(back, c) {
		t.Errorf("Decode of Encode(%s) = %s, %d", shown(c), shown(back), f)
	}
	return b, e
}

// decoded holds Decode of any bytes against the model, and asks 19.3 of the code.
func decoded(t *testing.T, b []byte) (api.Code, api.Errno) {
	t.Helper()
	a, stands := roomyBytes(b)
	c, e := pack.Decode(a)
	if want, f := modelDecode(b); e != f || !code.Same(c, want) {
		t.Errorf("Decode(%s) = %s, %d, not %s, %d", hexed(b), shown(c), e, shown(want), f)
		return c, e
	}
	if !stands() {
		t.Errorf("Decode(%s) changed its bytes", hexed(b))
	}
	if e != api.OK {
		return c, e
	}
	if back, f := pack.Encode(c); f != api.OK || !bytes.Equal(back, b) {
		t.Errorf("Encode of Decode(%s) = %s, %d", hexed(b), hexed(back), f)
	}
	return c, e
}

// writes asks for a code's bytes, all that encoded and decoded ask, and for ErrShort wherever they are cut.
func writes(t *testing.T, c api.Code, want []byte) {
	t.Helper()
	if b, e := encoded(t, c); e != api.OK || !bytes.Equal(b, want) {
		t.Errorf("Encode(%s) = %s, %d, not %s", shown(c), hexed(b), e, hexed(want))
	}
	if d, e := decoded(t, want); e != api.OK || !code.Same(d, c) {
		t.Errorf("Decode(%s) = %s, %d, not %s", hexed(want), shown(d), e, shown(c))
	}
	for i := range want {
		if d, e := pack.Decode(want[:i]); e != api.ErrShort || !zero(d) {
			t.Errorf("Decode of %d bytes of %s = %s, %d", i, hexed(want), shown(d), e)
		}
	}
}

// zero tells whether a code is the zero one.
func zero(c api.Code) bool { return c.Kind == (api.Kind{}) && len(c.Insts) == 0 && c.Out == 0 }

// refusedCode asks for ErrCode of Encode, and all that encoded asks.
func refusedCode(t *testing.T, c api.Code) {
	t.Helper()
	if b, e := encoded(t, c); e != api.ErrCode || len(b) != 0 {
		t.Errorf("Encode(%s) = %s, %d, but it may not be", shown(c), hexed(b), e)
	}
}

// refused asks for an error of Decode, and all that decoded asks.
func refused(t *testing.T, b []byte, want api.Errno) {
	t.Helper()
	if c, e := decoded(t, b); e != want || !zero(c) {
		t.Errorf("Decode(%s) = %s, %d, not the error %d and the zero code", hexed(b), shown(c), e, want)
	}
}
