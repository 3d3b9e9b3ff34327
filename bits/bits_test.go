package bits_test

import (
	"bytes"
	"math"
	"math/rand"
	"slices"
	"strconv"
	"strings"
	"testing"

	"damask/api"
	"damask/bits"
)

// wrong are numbers that may be no width and no most.
func wrong(above int) []int {
	return []int{-1, -2, -64, math.MinInt32, math.MinInt64, above, above + 1, 256, 1 << 32, math.MaxInt64}
}

// binary answers the number n in width digits.
func binary(n, width int) string {
	if width == 0 {
		return ""
	}
	s := strconv.FormatUint(uint64(n), 2)
	return strings.Repeat("0", width-len(s)) + s
}

// run answers n ones, and a nought behind fewer than most.
func run(n, most int) string {
	s := strings.Repeat("1", n)
	if n < most {
		s += "0"
	}
	return s
}

// filled answers the bytes of a text of noughts and ones, the last byte filled up with noughts.
func filled(s string) []byte {
	for len(s)%8 != 0 {
		s += "0"
	}
	var b []byte
	for ; s != ""; s = s[8:] {
		n, err := strconv.ParseUint(s[:8], 2, 8)
		if err != nil {
			panic(err)
		}
		b = append(b, byte(n))
	}
	return b
}

// digits answers the bits of b as a text of noughts and ones.
func digits(b []byte) string {
	var s strings.Builder
	for _, c := range b {
		s.WriteString(binary(int(c), 8))
	}
	return s.String()
}

// holds holds a writer against the bits that it should have.
func holds(t *testing.T, w *bits.Writer, want string) {
	t.Helper()
	if w.Len() != len(want) || !bytes.Equal(w.Bytes(), filled(want)) {
		t.Fatalf("%d bits, %x, not %d, %x", w.Len(), w.Bytes(), len(want), filled(want))
	}
}

// stands holds a reader's place against how many bits should have been read of b.
func stands(t *testing.T, r *bits.Reader, b []byte, at int) {
	t.Helper()
	if r.At() != at || r.Left() != 8*len(b)-at {
		t.Fatalf("of %x: at %d, %d left, not at %d", b, r.At(), r.Left(), at)
	}
}

// moved answers a reader of b that has read at bits.
func moved(t *testing.T, b []byte, at int) *bits.Reader {
	t.Helper()
	r := bits.Open(b)
	for range at {
		if _, e := r.Take(1); e != api.OK {
			t.Fatalf("Take(1) of %x: %d", b, e)
		}
	}
	return r
}

// spare answers a list of the bytes b with spare room of 0xa5 behind them.
func spare(b []byte) []byte {
	room := append(slices.Clone(b), bytes.Repeat([]byte{0xa5}, 16)...)
	return room[:len(b)]
}

// whole answers a list with its spare room.
func whole(b []byte) []byte { return b[:cap(b)] }

// scribble writes over a list and its spare room.
func scribble(b []byte) {
	for i := range whole(b) {
		whole(b)[i] ^= 0x5a
	}
}

// 2.1

func TestNew(t *testing.T) {
	w, other := bits.New(), bits.New()
	if w == nil || other == nil {
		t.Fatal("New() = nil")
	}
	holds(t, w, "")
	w.Put(1, 1)
	holds(t, w, "1")
	holds(t, other, "")
	holds(t, bits.New(), "")
}

func TestPut(t *testing.T) {
	for width := range 33 {
		last := 1<<width - 1
		for _, n := range []int{0, 1, 2, last / 3, last / 2, last/2 + 1, last - 1, last} {
			if n < 0 || n > last {
				continue
			}
			for ahead := range 9 {
				w := bits.New()
				w.Put(0, ahead)
				if e := w.Put(n, width); e != api.OK {
					t.Fatalf("Put(%d, %d): %d", n, width, e)
				}
				holds(t, w, binary(0, ahead)+binary(n, width))
			}
		}
	}
	for width := range 13 {
		for n := range 1 << width {
			w := bits.New()
			if e := w.Put(n, width); e != api.OK {
				t.Fatalf("Put(%d, %d): %d", n, width, e)
			}
			holds(t, w, binary(n, width))
		}
	}
}

func TestPutRefuses(t *testing.T) {
	w := bits.New()
	w.Put(5, 3)
	refused := func(n, width int) {
		t.Helper()
		if e := w.Put(n, width); e != api.ErrInput {
			t.Errorf("Put(%d, %d): %d", n, width, e)
		}
		holds(t, w, "101")
	}
	for width := range 33 {
		for _, n := range []int{-1, -2, -1 << 31, -1 << 32, -1 << 33, -1 << width, math.MinInt64, 1 << width, 1<<width + 1, 1 << 33, 1 << 62, math.MaxInt64} {
			refused(n, width)
		}
	}
	for _, width := range wrong(33) {
		for _, n := range []int{0, 1, -1, 1 << 32, math.MaxInt64, math.MinInt64} {
			refused(n, width)
		}
	}
}

func TestWriteOnes(t *testing.T) {
	for most := range 65 {
		for n := range most + 1 {
			for _, ahead := range []int{0, 1, 7} {
				w := bits.New()
				w.Put(0, ahead)
				if e := w.Ones(n, most); e != api.OK {
					t.Fatalf("Ones(%d, %d): %d", n, most, e)
				}
				holds(t, w, binary(0, ahead)+run(n, most))
			}
		}
	}
}

func TestWriteOnesRefuses(t *testing.T) {
	w := bits.New()
	w.Put(2, 2)
	refused := func(n, most int) {
		t.Helper()
		if e := w.Ones(n, most); e != api.ErrInput {
			t.Errorf("Ones(%d, %d): %d", n, most, e)
		}
		holds(t, w, "10")
	}
	for most := range 65 {
		for _, n := range []int{-1, -64, math.MinInt64, most + 1, most + 2, 1 << 32, math.MaxInt64} {
			refused(n, most)
		}
	}
	for _, most := range wrong(65) {
		for _, n := range []int{0, 1, -1, 64, most, math.MaxInt64, math.MinInt64} {
			refused(n, most)
		}
	}
}

// 2.2

func TestLenAndBytes(t *testing.T) {
	w, want := bits.New(), ""
	for i := range 40 {
		holds(t, w, want)
		holds(t, w, want)
		bit := i * i % 3 % 2
		w.Put(bit, 1)
		want += strconv.Itoa(bit)
	}
	holds(t, w, want)
}

func TestWrittenOnBehindBytes(t *testing.T) {
	for size := range 70 {
		w := bits.New()
		for range size {
			w.Put(1, 1)
		}
		b := w.Bytes()
		kept := slices.Clone(whole(b))
		w.Ones(3, 9)
		w.Put(0x5a5a5a5a, 32)
		holds(t, w, strings.Repeat("1", size)+"1110"+binary(0x5a5a5a5a, 32))
		if !bytes.Equal(whole(b), kept) {
			t.Fatalf("an earlier answer of %d bits is %x then, not %x", size, whole(b), kept)
		}
	}
}

// 2.3

func TestOpen(t *testing.T) {
	for _, b := range [][]byte{nil, {}, {0}, {0x80}, {1, 2, 3}, bytes.Repeat([]byte{0x96}, 5000)} {
		r := bits.Open(b)
		if r == nil {
			t.Fatalf("Open(%x) = nil", b)
		}
		stands(t, r, b, 0)
		for i, c := range b {
			if n, e := r.Take(8); n != int(c) || e != api.OK {
				t.Fatalf("byte %d of %x = %d, %d", i, b, n, e)
			}
		}
		stands(t, r, b, 8*len(b))
	}
}

func TestTake(t *testing.T) {
	b := []byte{0x9d, 0x00, 0xff, 0x35, 0xc6, 0xa0}
	s := digits(b)
	for at := range len(s) + 1 {
		for width := range 33 {
			r := moved(t, b, at)
			n, e := r.Take(width)
			if width > len(s)-at {
				if n != 0 || e != api.ErrShort {
					t.Fatalf("Take(%d) of %d bits = %d, %d", width, len(s)-at, n, e)
				}
				stands(t, r, b, at)
				continue
			}
			if e != api.OK || binary(n, width) != s[at:at+width] {
				t.Fatalf("Take(%d) at %d = %d, %d, not %s", width, at, n, e, s[at:at+width])
			}
			stands(t, r, b, at+width)
		}
	}
	if n, e := bits.Open(bytes.Repeat([]byte{0xff}, 4)).Take(32); n != 1<<32-1 || e != api.OK {
		t.Errorf("Take(32) of ff ff ff ff = %d, %d", n, e)
	}
	if n, e := bits.Open([]byte{0x80, 0, 0, 0}).Take(32); n != 1<<31 || e != api.OK {
		t.Errorf("Take(32) of 80 00 00 00 = %d, %d", n, e)
	}
}

func TestTakeRefuses(t *testing.T) {
	for _, b := range [][]byte{nil, {0xc5}, {0xc5, 0xff, 0, 1, 2, 3, 4, 5, 6}} {
		r := bits.Open(b)
		for _, width := range wrong(33) {
			if n, e := r.Take(width); n != 0 || e != api.ErrInput {
				t.Errorf("Take(%d) of %x = %d, %d", width, b, n, e)
			}
			stands(t, r, b, 0)
		}
	}
	r := moved(t, []byte{0x35}, 2)
	for range 2 {
		if n, e := r.Take(7); n != 0 || e != api.ErrShort {
			t.Errorf("Take(7) of 6 bits = %d, %d", n, e)
		}
	}
	if n, e := r.Take(6); n != 0x35 || e != api.OK {
		t.Errorf("Take(6) behind what was refused = %d, %d", n, e)
	}
	if n, e := r.Take(0); n != 0 || e != api.OK {
		t.Errorf("Take(0) at the end = %d, %d", n, e)
	}
	if n, e := r.Take(1); n != 0 || e != api.ErrShort {
		t.Errorf("Take(1) at the end = %d, %d", n, e)
	}
}

// counted answers, by 2.3 word by word, what Ones(most) answers of the bits s and how many it reads.
func counted(s string, most int) (n, read int, e api.Errno) {
	for n < most {
		if n == len(s) {
			return 0, 0, api.ErrShort
		}
		if s[n] == '0' {
			return n, n + 1, api.OK
		}
		n++
	}
	return n, n, api.OK
}

// onesHeld holds Ones(most) at every place of b against counted.
func onesHeld(t *testing.T, b []byte, most int) {
	t.Helper()
	s := digits(b)
	for at := range len(s) + 1 {
		want, read, wantErr := counted(s[at:], most)
		r := moved(t, b, at)
		if n, e := r.Ones(most); n != want || e != wantErr {
			t.Fatalf("Ones(%d) at %d of %x = %d, %d, not %d, %d", most, at, b, n, e, want, wantErr)
		}
		stands(t, r, b, at+read)
	}
}

func TestReadOnes(t *testing.T) {
	for _, b := range [][]byte{nil, {0}, {0xff}, {0xfe}, {0x7f}, {0xb7, 0x80}, bytes.Repeat([]byte{0xff}, 8), append(bytes.Repeat([]byte{0xff}, 8), 0), append(bytes.Repeat([]byte{0xff}, 8), 0x80)} {
		for most := range 65 {
			onesHeld(t, b, most)
		}
	}
	for c := range 256 {
		for most := range 10 {
			onesHeld(t, []byte{byte(c)}, most)
		}
	}
}

func TestReadOnesRefuses(t *testing.T) {
	for _, b := range [][]byte{nil, {0}, {0xff}, bytes.Repeat([]byte{0xff}, 20)} {
		r := bits.Open(b)
		for _, most := range wrong(65) {
			if n, e := r.Ones(most); n != 0 || e != api.ErrInput {
				t.Errorf("Ones(%d) of %x = %d, %d", most, b, n, e)
			}
			stands(t, r, b, 0)
		}
	}
	b := []byte{0x1f}
	r := moved(t, b, 3)
	for range 2 {
		if n, e := r.Ones(6); n != 0 || e != api.ErrShort {
			t.Errorf("Ones(6) of five ones = %d, %d", n, e)
		}
		stands(t, r, b, 3)
	}
	if n, e := r.Ones(5); n != 5 || e != api.OK {
		t.Errorf("Ones(5) of five ones = %d, %d", n, e)
	}
	if n, e := r.Ones(0); n != 0 || e != api.OK {
		t.Errorf("Ones(0) at the end = %d, %d", n, e)
	}
	if n, e := r.Ones(1); n != 0 || e != api.ErrShort {
		t.Errorf("Ones(1) at the end = %d, %d", n, e)
	}
}

// 2.4

func TestAtLeftAndEnd(t *testing.T) {
	for c := range 256 {
		b := []byte{0xff, byte(c)}
		s := digits(b)
		for at := range len(s) + 1 {
			want := api.OK
			if len(s)-at >= 8 {
				want = api.ErrTail
			} else if strings.Contains(s[at:], "1") {
				want = api.ErrForm
			}
			r := moved(t, b, at)
			for range 2 {
				if e := r.End(); e != want {
					t.Fatalf("End at %d of %s = %d, not %d", at, s, e, want)
				}
				stands(t, r, b, at)
			}
		}
	}
	for _, b := range [][]byte{{0}, {1}, {0, 0}, {0, 0x10}} {
		if e := bits.Open(b).End(); e != api.ErrTail {
			t.Errorf("End at the beginning of %x = %d", b, e)
		}
	}
	if e := bits.Open(nil).End(); e != api.OK {
		t.Errorf("End of nothing = %d", e)
	}
}

// 2.5

// step is one call that writes, and the one that reads it back.
type step struct {
	ones       bool
	n, measure int // the number, and the width or most
}

// write carries the steps out on a writer.
func write(t *testing.T, w *bits.Writer, steps []step) {
	t.Helper()
	for _, s := range steps {
		e := api.OK
		if s.ones {
			e = w.Ones(s.n, s.measure)
		} else {
			e = w.Put(s.n, s.measure)
		}
		if e != api.OK {
			t.Fatalf("%v: %d", s, e)
		}
	}
}

// readBack holds what a reader reads by the steps against what was written.
func readBack(t *testing.T, r *bits.Reader, steps []step) {
	t.Helper()
	for i, s := range steps {
		n, e := 0, api.OK
		if s.ones {
			n, e = r.Ones(s.measure)
		} else {
			n, e = r.Take(s.measure)
		}
		if n != s.n || e != api.OK {
			t.Fatalf("step %d, %v, is read as %d, %d", i, s, n, e)
		}
	}
}

// someSteps answers steps by a seed, among them many at the edges.
func someSteps(seed int64, count int) []step {
	rnd := rand.New(rand.NewSource(seed))
	steps := make([]step, count)
	for i := range steps {
		s := step{ones: rnd.Intn(2) == 0}
		last := 0
		if s.ones {
			s.measure = rnd.Intn(65)
			last = s.measure
		} else {
			s.measure = rnd.Intn(33)
			last = 1<<s.measure - 1
		}
		s.n = []int{0, last, rnd.Intn(last + 1)}[rnd.Intn(3)]
		steps[i] = s
	}
	return steps
}

func TestWrittenIsReadBack(t *testing.T) {
	for seed := range 400 {
		steps := someSteps(int64(seed), seed)
		w := bits.New()
		write(t, w, steps)
		r := bits.Open(w.Bytes())
		readBack(t, r, steps)
		if r.At() != w.Len() || r.End() != api.OK {
			t.Fatalf("seed %d: at %d of %d, End %d", seed, r.At(), w.Len(), r.End())
		}
	}
}

func TestRefusedIsNotWritten(t *testing.T) {
	steps := someSteps(7, 200)
	w := bits.New()
	for i := range steps {
		w.Put(1<<5, 5)
		w.Ones(6, 5)
		w.Put(0, 33)
		w.Ones(0, 65)
		write(t, w, steps[i:i+1])
	}
	r := bits.Open(w.Bytes())
	for i := range steps {
		r.Take(33)
		r.Ones(65)
		readBack(t, r, steps[i:i+1])
	}
	if r.At() != w.Len() || r.End() != api.OK {
		t.Errorf("at %d of %d, End %d", r.At(), w.Len(), r.End())
	}
}

// 2.6

func TestNilWriter(t *testing.T) {
	var w *bits.Writer
	for _, width := range append(wrong(33), 0, 1, 8, 32) {
		for _, n := range []int{0, 1, -1, math.MaxInt64} {
			if e := w.Put(n, width); e != api.ErrInput {
				t.Errorf("Put(%d, %d) = %d", n, width, e)
			}
			if e := w.Ones(n, width); e != api.ErrInput {
				t.Errorf("Ones(%d, %d) = %d", n, width, e)
			}
		}
	}
	if w.Len() != 0 || len(w.Bytes()) != 0 {
		t.Errorf("%d bits, %x", w.Len(), w.Bytes())
	}
}

func TestNilReader(t *testing.T) {
	var r *bits.Reader
	for _, width := range append(wrong(33), 0, 1, 8, 32) {
		if n, e := r.Take(width); n != 0 || e != api.ErrInput {
			t.Errorf("Take(%d) = %d, %d", width, n, e)
		}
		if n, e := r.Ones(width); n != 0 || e != api.ErrInput {
			t.Errorf("Ones(%d) = %d, %d", width, n, e)
		}
	}
	if r.At() != 0 || r.Left() != 0 || r.End() != api.ErrInput {
		t.Errorf("At %d, Left %d, End %d", r.At(), r.Left(), r.End())
	}
}

// P1, rule 4

func TestHandedIn(t *testing.T) {
	b := spare([]byte{0xb7, 0x80})
	kept := slices.Clone(whole(b))
	r := bits.Open(b)
	r.Take(3)
	r.Ones(20)
	r.End()
	if !bytes.Equal(whole(b), kept) {
		t.Errorf("what was handed in is %x then", whole(b))
	}
	scribble(b)
	if n, e := r.Ones(2); n != 2 || e != api.OK {
		t.Errorf("Ones(2) = %d, %d behind a write", n, e)
	}
	if n, e := r.Take(9); n != 0x180 || e != api.OK {
		t.Errorf("Take(9) = %d, %d behind a write", n, e)
	}
}

func TestHandedOut(t *testing.T) {
	for size := range 70 {
		w, want := bits.New(), strings.Repeat("1", size)
		for range size {
			w.Put(1, 1)
		}
		first, second := w.Bytes(), w.Bytes()
		kept := slices.Clone(whole(second))
		scribble(first)
		if !bytes.Equal(whole(second), kept) {
			t.Fatalf("two answers of %d bits share memory", size)
		}
		holds(t, w, want)
		w.Put(0, 9)
		scribble(second)
		w.Put(0xffff, 16)
		holds(t, w, want+binary(0, 9)+binary(0xffff, 16))
	}
}

// The chapter's examples.

func TestExampleOfWriting(t *testing.T) {
	w := bits.New()
	if e := w.Put(5, 3); e != api.OK {
		t.Errorf("Put(5, 3): %d", e)
	}
	if e := w.Ones(1, 20); e != api.OK {
		t.Errorf("Ones(1, 20): %d", e)
	}
	if w.Len() != 5 || !bytes.Equal(w.Bytes(), []byte{0xb0}) {
		t.Errorf("%d bits, %x", w.Len(), w.Bytes())
	}
	if e := w.Ones(2, 2); e != api.OK || w.Len() != 7 {
		t.Errorf("Ones(2, 2): %d, %d bits", e, w.Len())
	}
	if e := w.Put(8, 3); e != api.ErrInput || w.Len() != 7 {
		t.Errorf("Put(8, 3): %d, %d bits", e, w.Len())
	}
	if e := w.Put(0, 0); e != api.OK || w.Len() != 7 {
		t.Errorf("Put(0, 0): %d, %d bits", e, w.Len())
	}
	if !bytes.Equal(w.Bytes(), []byte{0xb6}) {
		t.Errorf("%x in the end", w.Bytes())
	}
}

func TestExampleOfReading(t *testing.T) {
	b := []byte{0xb7, 0x80}
	r := bits.Open(b)
	take := func(width, want int, wantErr api.Errno, at int) {
		t.Helper()
		if n, e := r.Take(width); n != want || e != wantErr {
			t.Errorf("Take(%d) = %d, %d", width, n, e)
		}
		stands(t, r, b, at)
	}
	ones := func(most, want, at int) {
		t.Helper()
		if n, e := r.Ones(most); n != want || e != api.OK {
			t.Errorf("Ones(%d) = %d, %d", most, n, e)
		}
		stands(t, r, b, at)
	}
	take(3, 5, api.OK, 3)
	ones(20, 1, 5)
	ones(2, 2, 7)
	take(10, 0, api.ErrShort, 7)
	take(1, 1, api.OK, 8)
	ones(9, 1, 10)
	if e := r.End(); e != api.OK {
		t.Errorf("End = %d", e)
	}
}

func TestExampleOfOnes(t *testing.T) {
	r := bits.Open([]byte{0xff})
	if n, e := r.Ones(9); n != 0 || e != api.ErrShort {
		t.Errorf("Ones(9) = %d, %d", n, e)
	}
	if n, e := r.Ones(8); n != 8 || e != api.OK {
		t.Errorf("Ones(8) = %d, %d", n, e)
	}
	r = bits.Open([]byte{0xff})
	if n, e := r.Take(1); n != 1 || e != api.OK || r.End() != api.ErrForm {
		t.Errorf("Take(1) = %d, %d, End %d", n, e, r.End())
	}
}
