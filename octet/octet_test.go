package octet_test

import (
	"bytes"
	"encoding/binary"
	"math"
	"math/big"
	"slices"
	"testing"

	"damask/api"
	"damask/octet"
)

// long answers nine bytes of 0xff and the last one: a varint of ten bytes, or none.
func long(last byte) []byte {
	return append(bytes.Repeat([]byte{0xff}, 9), last)
}

// edges are numbers of either sign around every place where a varint grows by a byte or a number ends.
func edges() []int {
	var all []int
	for shift := range 64 {
		p := int(uint64(1) << shift)
		for d := -2; d <= 2; d++ {
			all = append(all, p+d, -p+d)
		}
	}
	all = append(all, 0, 63, -63, 64, -64, 65, -65, 100, 200, 300, -300, 1000000, -1000000)
	slices.Sort(all)
	return slices.Compact(all)
}

// mustUint answers the bytes of a number that may be.
func mustUint(t *testing.T, n int) []byte {
	t.Helper()
	b, e := octet.Uint(n)
	if e != api.OK {
		t.Fatalf("Uint(%d): %d", n, e)
	}
	return b
}

// spare answers a list of the bytes b with spare room of 0xa5 behind them.
func spare(b []byte) []byte {
	room := append(slices.Clone(b), bytes.Repeat([]byte{0xa5}, 16)...)
	return room[:len(b)]
}

// whole answers a list with its spare room.
func whole(b []byte) []byte { return b[:cap(b)] }

// scribble writes over a list and its spare room.
func scribble(b []byte) {
	for i := range whole(b) {
		whole(b)[i] ^= 0x5a
	}
}

// 1.1

func TestUint(t *testing.T) {
	for _, c := range []struct {
		n    int
		want []byte
	}{
		{0, []byte{0}},
		{1, []byte{1}},
		{127, []byte{0x7f}},
		{128, []byte{0x80, 1}},
		{300, []byte{0xac, 2}},
		{1<<14 - 1, []byte{0xff, 0x7f}},
		{1 << 14, []byte{0x80, 0x80, 1}},
		{math.MaxInt32, []byte{0xff, 0xff, 0xff, 0xff, 7}},
		{math.MaxInt64, []byte{0xff, 0xff, 0xff, 0xff, 0xff, 0xff, 0xff, 0xff, 0x7f}},
	} {
		if b, e := octet.Uint(c.n); e != api.OK || !bytes.Equal(b, c.want) {
			t.Errorf("Uint(%d) = %x, %d, not %x", c.n, b, e, c.want)
		}
	}
	for _, n := range edges() {
		b, e := octet.Uint(n)
		if n < 0 {
			if e != api.ErrInput || len(b) != 0 {
				t.Errorf("Uint(%d) = %x, %d, not ErrInput", n, b, e)
			}
		} else if want := binary.AppendUvarint(nil, uint64(n)); e != api.OK || !bytes.Equal(b, want) {
			t.Errorf("Uint(%d) = %x, %d, not %x", n, b, e, want)
		}
	}
}

// 1.2

func TestInt(t *testing.T) {
	for _, c := range []struct {
		n    int
		want []byte
	}{
		{0, []byte{0}},
		{-1, []byte{1}},
		{1, []byte{2}},
		{-2, []byte{3}},
		{63, []byte{0x7e}},
		{-64, []byte{0x7f}},
		{64, []byte{0x80, 1}},
		{-65, []byte{0x81, 1}},
		{math.MaxInt64, append([]byte{0xfe}, long(1)[1:]...)},
		{math.MinInt64, long(1)},
	} {
		if b := octet.Int(c.n); !bytes.Equal(b, c.want) {
			t.Errorf("Int(%d) = %x, not %x", c.n, b, c.want)
		}
	}
	for _, n := range edges() {
		if b, want := octet.Int(n), binary.AppendVarint(nil, int64(n)); !bytes.Equal(b, want) {
			t.Errorf("Int(%d) = %x, not %x", n, b, want)
		}
	}
}

// 1.3

func TestJoin(t *testing.T) {
	for _, c := range []struct {
		parts [][]byte
		want  []byte
	}{
		{nil, nil},
		{[][]byte{nil}, nil},
		{[][]byte{{}, nil, {}}, nil},
		{[][]byte{{7}}, []byte{7}},
		{[][]byte{{1}, nil, {2, 3}}, []byte{1, 2, 3}},
		{[][]byte{{2, 3}, {}, {1}, {0}, {}}, []byte{2, 3, 1, 0}},
		{[][]byte{bytes.Repeat([]byte{9}, 1000), {1}, bytes.Repeat([]byte{8}, 1000)}, append(append(bytes.Repeat([]byte{9}, 1000), 1), bytes.Repeat([]byte{8}, 1000)...)},
	} {
		if b := octet.Join(c.parts...); !bytes.Equal(b, c.want) {
			t.Errorf("Join(%x) = %x, not %x", c.parts, b, c.want)
		}
	}
	if b := octet.Join(); len(b) != 0 {
		t.Errorf("Join() = %x", b)
	}
	same := []byte{4, 5}
	if b := octet.Join(same, same); !bytes.Equal(b, []byte{4, 5, 4, 5}) {
		t.Errorf("Join of one part twice = %x", b)
	}
}

// 1.4

func TestNewStandsAtBeginning(t *testing.T) {
	for _, b := range [][]byte{nil, {}, {1}, {0x80}, bytes.Repeat([]byte{3}, 5000)} {
		r := octet.New(b)
		if r == nil {
			t.Fatalf("New(%x) = nil", b)
		}
		if r.Left() != len(b) {
			t.Errorf("New(%x): %d left", b, r.Left())
		}
		if got, e := r.Bytes(len(b)); e != api.OK || !bytes.Equal(got, b) {
			t.Errorf("New(%x): Bytes = %x, %d", b, got, e)
		}
	}
}

func TestReadingStandsBehind(t *testing.T) {
	r := octet.New([]byte{0xac, 2, 0x81, 1, 0xfe, 1, 2, 3, 9})
	if n, e := r.Uint(); n != 300 || e != api.OK || r.Left() != 7 {
		t.Errorf("Uint = %d, %d, %d left", n, e, r.Left())
	}
	if n, e := r.Int(); n != -65 || e != api.OK || r.Left() != 5 {
		t.Errorf("Int = %d, %d, %d left", n, e, r.Left())
	}
	if n, e := r.Byte(); n != 0xfe || e != api.OK || r.Left() != 4 {
		t.Errorf("Byte = %d, %d, %d left", n, e, r.Left())
	}
	if b, e := r.Bytes(0); len(b) != 0 || e != api.OK || r.Left() != 4 {
		t.Errorf("Bytes(0) = %x, %d, %d left", b, e, r.Left())
	}
	if b, e := r.Bytes(3); !bytes.Equal(b, []byte{1, 2, 3}) || e != api.OK || r.Left() != 1 {
		t.Errorf("Bytes(3) = %x, %d, %d left", b, e, r.Left())
	}
	if n, e := r.Uint(); n != 9 || e != api.OK || r.Left() != 0 {
		t.Errorf("Uint = %d, %d, %d left", n, e, r.Left())
	}
}

// refusals calls what a reader of b refuses, each by its error, and tells how many did.
func refusals(t *testing.T, r *octet.Reader, b []byte) int {
	t.Helper()
	refused := 0
	for _, n := range []int{-1, math.MinInt64, len(b) + 1, math.MaxInt64} {
		want := api.ErrShort
		if n < 0 {
			want = api.ErrInput
		}
		if got, e := r.Bytes(n); e != want || len(got) != 0 {
			t.Errorf("Bytes(%d) of %x = %x, %d, not %d", n, b, got, e, want)
		}
		refused++
	}
	if _, _, e := model(b); e != api.OK {
		if n, got := r.Uint(); got != e || n != 0 {
			t.Errorf("Uint of %x = %d, %d, not %d", b, n, got, e)
		}
		if n, got := r.Int(); got != e || n != 0 {
			t.Errorf("Int of %x = %d, %d, not %d", b, n, got, e)
		}
		refused += 2
	}
	return refused
}

func TestRefusedDoesNotMove(t *testing.T) {
	for _, b := range [][]byte{
		{}, {0x80}, {0xff, 0xff}, {0x80, 0}, {0x80, 0, 7}, {0x81, 0x80, 0}, long(2), long(0x80), long(0xff), long(0), bytes.Repeat([]byte{0x80}, 12),
	} {
		ahead := []byte{5, 6}
		r := octet.New(octet.Join(ahead, b))
		r.Bytes(2)
		for range 2 {
			if refusals(t, r, b) != 6 {
				t.Errorf("%x isn't refused", b)
			}
			if r.Left() != len(b) {
				t.Errorf("%x: %d left behind refusals", b, r.Left())
			}
		}
		if got, e := r.Bytes(len(b)); e != api.OK || !bytes.Equal(got, b) {
			t.Errorf("%x is read as %x, %d behind refusals", b, got, e)
		}
	}
	r := octet.New(long(1))
	if n, e := r.Uint(); n != 0 || e != api.ErrForm || r.Left() != 10 {
		t.Errorf("Uint above 2^63 - 1 = %d, %d, %d left", n, e, r.Left())
	}
	if n, e := r.Int(); n != math.MinInt64 || e != api.OK || r.Left() != 0 {
		t.Errorf("Int behind a refused Uint = %d, %d, %d left", n, e, r.Left())
	}
}

// 1.5

// model answers, on whole numbers without bounds, what varint stands at the beginning of b and how long it is; it goes by 1.5 word by word.
func model(b []byte) (*big.Int, int, api.Errno) {
	x := new(big.Int)
	for i := 0; ; i++ {
		if i >= len(b) {
			return nil, 0, api.ErrShort
		}
		if i == 9 && b[i] > 1 {
			return nil, 0, api.ErrForm
		}
		part := big.NewInt(int64(b[i] & 0x7f))
		x.Add(x, part.Lsh(part, uint(7*i)))
		if b[i] < 128 {
			if b[i] == 0 && i != 0 {
				return nil, 0, api.ErrForm
			}
			return x, i + 1, api.OK
		}
	}
}

// modelInt answers the number whose any-number form has the varint x.
func modelInt(x *big.Int) int {
	if x.Bit(0) == 0 {
		return int(new(big.Int).Rsh(x, 1).Int64())
	}
	n := new(big.Int).Add(x, big.NewInt(1))
	return int(n.Neg(n.Rsh(n, 1)).Int64())
}

// held holds what a reader of b reads first against the model.
func held(t *testing.T, b []byte) {
	t.Helper()
	x, size, e := model(b)
	wantUint, wantInt, eu, left := 0, 0, e, len(b)
	if e == api.OK {
		wantInt, left = modelInt(x), len(b)-size
		if x.IsInt64() {
			wantUint = int(x.Int64())
		} else {
			eu = api.ErrForm
		}
	}
	r := octet.New(b)
	if n, got := r.Int(); n != wantInt || got != e || r.Left() != left {
		t.Fatalf("Int of %x = %d, %d, %d left; not %d, %d, %d", b, n, got, r.Left(), wantInt, e, left)
	}
	if eu != api.OK {
		left = len(b)
	}
	r = octet.New(b)
	if n, got := r.Uint(); n != wantUint || got != eu || r.Left() != left {
		t.Fatalf("Uint of %x = %d, %d, %d left; not %d, %d, %d", b, n, got, r.Left(), wantUint, eu, left)
	}
}

func TestReadNumbers(t *testing.T) {
	for _, c := range []struct {
		b      []byte
		n      int
		e      api.Errno
		any    int
		anyErr api.Errno
	}{
		{nil, 0, api.ErrShort, 0, api.ErrShort},
		{[]byte{0}, 0, api.OK, 0, api.OK},
		{[]byte{0, 0}, 0, api.OK, 0, api.OK},
		{[]byte{0x7f}, 127, api.OK, -64, api.OK},
		{[]byte{0x80}, 0, api.ErrShort, 0, api.ErrShort},
		{[]byte{0x80, 1}, 128, api.OK, 64, api.OK},
		{[]byte{0x80, 0}, 0, api.ErrForm, 0, api.ErrForm},
		{[]byte{0xff, 0}, 0, api.ErrForm, 0, api.ErrForm},
		{[]byte{0x80, 0x80, 0}, 0, api.ErrForm, 0, api.ErrForm},
		{[]byte{0xac, 2, 9}, 300, api.OK, 150, api.OK},
		{long(1)[:9], 0, api.ErrShort, 0, api.ErrShort},
		{long(1), 0, api.ErrForm, math.MinInt64, api.OK},
		{append([]byte{0xfe}, long(1)[1:]...), 0, api.ErrForm, math.MaxInt64, api.OK},
		{append(long(1)[:8], 0x7f), math.MaxInt64, api.OK, -1 << 62, api.OK},
		{append(bytes.Repeat([]byte{0x80}, 9), 1), 0, api.ErrForm, 1 << 62, api.OK},
		{long(0), 0, api.ErrForm, 0, api.ErrForm},
		{long(2), 0, api.ErrForm, 0, api.ErrForm},
		{long(0x7f), 0, api.ErrForm, 0, api.ErrForm},
		{long(0x80), 0, api.ErrForm, 0, api.ErrForm},
		{long(0x81), 0, api.ErrForm, 0, api.ErrForm},
		{append(long(0xff), 1), 0, api.ErrForm, 0, api.ErrForm},
	} {
		if n, e := octet.New(c.b).Uint(); n != c.n || e != c.e {
			t.Errorf("Uint of %x = %d, %d, not %d, %d", c.b, n, e, c.n, c.e)
		}
		if n, e := octet.New(c.b).Int(); n != c.any || e != c.anyErr {
			t.Errorf("Int of %x = %d, %d, not %d, %d", c.b, n, e, c.any, c.anyErr)
		}
		held(t, c.b)
	}
}

func TestReadNumbersAgainstModel(t *testing.T) {
	var alphabet = []byte{0, 1, 2, 0x7f, 0x80, 0x81, 0xfe, 0xff}
	// Behind each of these lengths of bytes that aren't a last one, all endings of up to three bytes.
	for ahead := range 13 {
		for _, fill := range []byte{0x80, 0xff, 0xd5} {
			lead := bytes.Repeat([]byte{fill}, ahead)
			held(t, lead)
			for _, a := range alphabet {
				held(t, octet.Join(lead, []byte{a}))
				for _, b := range alphabet {
					held(t, octet.Join(lead, []byte{a, b}))
					for _, c := range alphabet {
						held(t, octet.Join(lead, []byte{a, b, c}))
					}
				}
			}
		}
	}
	for a := range 256 {
		for b := range 256 {
			held(t, []byte{byte(a), byte(b)})
		}
	}
}

func TestReadBytes(t *testing.T) {
	all := make([]byte, 256)
	for i := range all {
		all[i] = byte(i)
	}
	r := octet.New(all)
	for i := range all {
		if n, e := r.Byte(); n != i || e != api.OK {
			t.Errorf("Byte = %d, %d, not %d", n, e, i)
		}
	}
	for range 2 {
		if n, e := r.Byte(); n != 0 || e != api.ErrShort {
			t.Errorf("Byte at the end = %d, %d", n, e)
		}
	}
	for n := -3; n <= 6; n++ {
		r := octet.New([]byte{1, 2, 3, 4})
		b, e := r.Bytes(n)
		switch {
		case n < 0:
			if e != api.ErrInput || len(b) != 0 || r.Left() != 4 {
				t.Errorf("Bytes(%d) of 4 = %x, %d", n, b, e)
			}
		case n > 4:
			if e != api.ErrShort || len(b) != 0 || r.Left() != 4 {
				t.Errorf("Bytes(%d) of 4 = %x, %d", n, b, e)
			}
		default:
			if e != api.OK || !bytes.Equal(b, []byte{1, 2, 3, 4}[:n]) || r.Left() != 4-n {
				t.Errorf("Bytes(%d) of 4 = %x, %d", n, b, e)
			}
		}
	}
}

// 1.6

func TestLeftAndDone(t *testing.T) {
	for n := range 5 {
		r := octet.New(make([]byte, n))
		for left := n; left >= 0; left-- {
			want := api.ErrTail
			if left == 0 {
				want = api.OK
			}
			for range 2 {
				if r.Left() != left || r.Done() != want {
					t.Errorf("%d of %d left: Left %d, Done %d", left, n, r.Left(), r.Done())
				}
			}
			r.Byte()
		}
	}
}

// 1.7

func TestWrittenIsReadBack(t *testing.T) {
	var b []byte
	for _, n := range edges() {
		if n >= 0 {
			b = octet.Join(b, mustUint(t, n))
		}
		b = octet.Join(b, octet.Int(n), []byte{byte(n)}, []byte{1, byte(n), 3})
	}
	r := octet.New(b)
	for _, n := range edges() {
		if n >= 0 {
			if got, e := r.Uint(); got != n || e != api.OK {
				t.Fatalf("Uint = %d, %d, not %d", got, e, n)
			}
		}
		if got, e := r.Int(); got != n || e != api.OK {
			t.Fatalf("Int = %d, %d, not %d", got, e, n)
		}
		if got, e := r.Byte(); got != n&255 || e != api.OK {
			t.Fatalf("Byte = %d, %d, not %d", got, e, n&255)
		}
		if got, e := r.Bytes(3); !bytes.Equal(got, []byte{1, byte(n), 3}) || e != api.OK {
			t.Fatalf("Bytes = %x, %d", got, e)
		}
	}
	if r.Done() != api.OK {
		t.Errorf("%d left", r.Left())
	}
}

// oneForm holds what is read of b against what is written of that number.
func oneForm(t *testing.T, b []byte) {
	t.Helper()
	r := octet.New(b)
	if n, e := r.Uint(); e == api.OK {
		if read, want := b[:len(b)-r.Left()], mustUint(t, n); !bytes.Equal(read, want) {
			t.Fatalf("Uint reads %d of %x, which is %x", n, read, want)
		}
	}
	r = octet.New(b)
	if n, e := r.Int(); e == api.OK {
		if read, want := b[:len(b)-r.Left()], octet.Int(n); !bytes.Equal(read, want) {
			t.Fatalf("Int reads %d of %x, which is %x", n, read, want)
		}
	}
}

func TestOneForm(t *testing.T) {
	for x := range 1 << 16 {
		oneForm(t, []byte{byte(x), byte(x >> 8)})
	}
	for ahead := range 12 {
		for _, fill := range []byte{0x80, 0xff, 0xaa} {
			for last := range 256 {
				oneForm(t, append(bytes.Repeat([]byte{fill}, ahead), byte(last)))
			}
		}
	}
}

func FuzzOneForm(f *testing.F) {
	f.Add([]byte{0x80, 0})
	f.Add(long(1))
	f.Add(long(2))
	f.Fuzz(func(t *testing.T, b []byte) {
		held(t, b)
		oneForm(t, b)
	})
}

// 1.8

func TestNilReader(t *testing.T) {
	var r *octet.Reader
	for range 2 {
		if n, e := r.Uint(); n != 0 || e != api.ErrInput {
			t.Errorf("Uint = %d, %d", n, e)
		}
		if n, e := r.Int(); n != 0 || e != api.ErrInput {
			t.Errorf("Int = %d, %d", n, e)
		}
		if n, e := r.Byte(); n != 0 || e != api.ErrInput {
			t.Errorf("Byte = %d, %d", n, e)
		}
		for _, n := range []int{0, 1, -1, math.MaxInt64, math.MinInt64} {
			if b, e := r.Bytes(n); len(b) != 0 || e != api.ErrInput {
				t.Errorf("Bytes(%d) = %x, %d", n, b, e)
			}
		}
		if r.Left() != 0 {
			t.Errorf("Left = %d", r.Left())
		}
		if e := r.Done(); e != api.ErrInput {
			t.Errorf("Done = %d", e)
		}
	}
}

// P1, rule 4

func TestHandedInIsNotChanged(t *testing.T) {
	first, second := spare([]byte{1, 2}), spare([]byte{3})
	parts := append(make([][]byte, 0, 4), first, second)
	keptFirst, keptSecond := slices.Clone(whole(first)), slices.Clone(whole(second))
	scribble(octet.Join(parts...))
	if len(parts) != 2 || parts[:3][2] != nil || &parts[0][0] != &first[0] || &parts[1][0] != &second[0] {
		t.Error("Join changed the list of its parts")
	}
	scribble(octet.Join(first))
	r := octet.New(first)
	scribbleAll(r)
	if !bytes.Equal(whole(first), keptFirst) || !bytes.Equal(whole(second), keptSecond) {
		t.Errorf("what was handed in is %x, %x then", whole(first), whole(second))
	}
}

// scribbleAll reads all bytes of a reader and writes over the answer.
func scribbleAll(r *octet.Reader) {
	b, _ := r.Bytes(r.Left())
	scribble(b)
}

func TestHandedInIsNotKept(t *testing.T) {
	b := spare([]byte{0xac, 2, 5, 6, 7})
	r := octet.New(b)
	scribble(b)
	if n, e := r.Uint(); n != 300 || e != api.OK {
		t.Errorf("Uint = %d, %d behind a write", n, e)
	}
	scribble(b)
	if got, e := r.Bytes(3); !bytes.Equal(got, []byte{5, 6, 7}) || e != api.OK {
		t.Errorf("Bytes = %x, %d behind a write", got, e)
	}
	part := spare([]byte{1, 2})
	joined := octet.Join(part)
	scribble(part)
	if !bytes.Equal(joined, []byte{1, 2}) {
		t.Errorf("Join = %x behind a write", joined)
	}
}

func TestHandedOutIsNew(t *testing.T) {
	r := octet.New([]byte{1, 2, 3, 4, 5})
	one, _ := r.Bytes(1)
	none, _ := r.Bytes(0)
	two, _ := r.Bytes(2)
	scribble(none)
	scribble(one)
	if !bytes.Equal(two, []byte{2, 3}) {
		t.Errorf("an earlier answer reaches a later one: %x", two)
	}
	scribble(two)
	if rest, e := r.Bytes(2); !bytes.Equal(rest, []byte{4, 5}) || e != api.OK {
		t.Errorf("an answer reaches its reader: %x, %d", rest, e)
	}
	for _, n := range []int{0, 1, 127, 300, math.MaxInt64} {
		scribble(mustUint(t, n))
		scribble(octet.Int(n))
		if !bytes.Equal(mustUint(t, n), binary.AppendUvarint(nil, uint64(n))) || !bytes.Equal(octet.Int(n), binary.AppendVarint(nil, int64(n))) {
			t.Errorf("answers about %d share memory", n)
		}
	}
}

// P1, rule 6

func TestReadersStandAlone(t *testing.T) {
	b := []byte{1, 2, 3}
	r, s := octet.New(b), octet.New(b)
	r.Byte()
	r.Byte()
	if r.Left() != 1 || s.Left() != 3 {
		t.Errorf("%d and %d left", r.Left(), s.Left())
	}
	if n, e := s.Byte(); n != 1 || e != api.OK {
		t.Errorf("Byte of the other reader = %d, %d", n, e)
	}
}

// The chapter's third example; its first two stand in the tables above.

func TestExample(t *testing.T) {
	r := octet.New([]byte{3, 5, 6, 7})
	if n, e := r.Int(); n != -2 || e != api.OK {
		t.Errorf("Int = %d, %d", n, e)
	}
	if n, e := r.Byte(); n != 5 || e != api.OK {
		t.Errorf("Byte = %d, %d", n, e)
	}
	if b, e := r.Bytes(3); len(b) != 0 || e != api.ErrShort {
		t.Errorf("Bytes(3) = %x, %d", b, e)
	}
	if r.Left() != 2 || r.Done() != api.ErrTail {
		t.Errorf("Left %d, Done %d", r.Left(), r.Done())
	}
	if b, e := r.Bytes(2); !bytes.Equal(b, []byte{6, 7}) || e != api.OK {
		t.Errorf("Bytes(2) = %x, %d", b, e)
	}
	if r.Done() != api.OK {
		t.Errorf("Done = %d", r.Done())
	}
}
