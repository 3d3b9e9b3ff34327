package kind_test

import (
	"math"
	"slices"
	"testing"

	"damask/api"
	"damask/kind"
)

// farther are numbers far from all that may be.
var farther = []int{math.MinInt64, math.MinInt64 + 1, math.MinInt32, -1 << 16, 1 << 16, math.MaxInt32, 1 << 32, math.MaxInt64 - 1, math.MaxInt64}

// kinds are all kinds that may be.
func kinds() []api.Kind {
	var list []api.Kind
	for _, form := range []int{api.Image, api.Sound} {
		for depth := 1; depth <= api.MaxBits; depth++ {
			list = append(list, api.Kind{Form: form, Depth: depth})
		}
	}
	return list
}

// wrong are kinds that may not be.
func wrong() []api.Kind {
	var list []api.Kind
	for _, form := range append([]int{-2, -1, 2, 3}, farther...) {
		for depth := -1; depth <= api.MaxBits+1; depth++ {
			list = append(list, api.Kind{Form: form, Depth: depth})
		}
	}
	for _, depth := range append([]int{-64, -16, -8, -1, 0, api.MaxBits + 1, api.MaxBits + 2, 32, 63, 64, 65, 256}, farther...) {
		list = append(list, api.Kind{Form: api.Image, Depth: depth}, api.Kind{Form: api.Sound, Depth: depth})
	}
	return list
}

// row answers places of one row.
func row(back, coords, y, from, to int) []api.Place {
	var list []api.Place
	for x := from; x <= to; x++ {
		list = append(list, api.Place{Back: back, Coords: coords, X: x, Y: y})
	}
	return list
}

// places answers the places of a form, by their numbers, as the chapter lists them.
func places(form int) []api.Place {
	if form == api.Image {
		list := slices.Concat(row(0, 2, -2, -3, 3), row(0, 2, -1, -3, 3), row(0, 2, 0, -3, -1))
		for _, back := range []int{1, 2, 3} {
			list = slices.Concat(list, row(back, 2, -1, -1, 1), row(back, 2, 0, -1, 1), row(back, 2, 1, -1, 1))
		}
		return list
	}
	return slices.Concat(row(0, 1, 0, -16, -1), row(1, 1, 0, -4, 0), row(2, 1, 0, -4, 0), row(3, 1, 0, -4, 0))
}

// walked answers what a walk over the places tells, numbers checked.
func walked(t *testing.T, k api.Kind) []api.Place {
	t.Helper()
	var list []api.Place
	for n, p := range kind.All(k) {
		if n != len(list) {
			t.Fatalf("%v: All tells the number %d behind %d places", k, n, len(list))
		}
		list = append(list, p)
	}
	return list
}

func TestCheck(t *testing.T) {
	for _, k := range kinds() {
		if e := kind.Check(k); e != api.OK {
			t.Errorf("Check(%v) = %d", k, e)
		}
	}
	for _, k := range wrong() {
		if e := kind.Check(k); e != api.ErrInput {
			t.Errorf("Check(%v) = %d", k, e)
		}
	}
}

func TestBounds(t *testing.T) {
	for _, k := range kinds() {
		all := int(math.Pow(2, float64(k.Depth)))
		low, high, border := 0, all-1, all/2
		if k.Form == api.Sound {
			low, high, border = -all/2, all/2-1, 0
		}
		if kind.Low(k) != low || kind.High(k) != high || kind.Border(k) != border {
			t.Errorf("%v: %d to %d, border %d", k, kind.Low(k), kind.High(k), kind.Border(k))
		}
	}
	for _, k := range wrong() {
		if kind.Low(k) != 0 || kind.High(k) != 0 || kind.Border(k) != 0 {
			t.Errorf("%v: %d to %d, border %d", k, kind.Low(k), kind.High(k), kind.Border(k))
		}
	}
}

func TestBoundsOfExamples(t *testing.T) {
	for _, c := range []struct {
		k                 api.Kind
		low, high, border int
		e                 api.Errno
	}{
		{api.Kind{Form: api.Image, Depth: 8}, 0, 255, 128, api.OK},
		{api.Kind{Form: api.Sound, Depth: 16}, -32768, 32767, 0, api.OK},
		{api.Kind{Form: api.Image, Depth: 1}, 0, 1, 1, api.OK},
		{api.Kind{Form: api.Sound, Depth: 1}, -1, 0, 0, api.OK},
		{api.Kind{Form: api.Image, Depth: 16}, 0, 65535, 32768, api.OK},
		{api.Kind{Form: 2, Depth: 8}, 0, 0, 0, api.ErrInput},
		{api.Kind{Form: api.Image, Depth: 17}, 0, 0, 0, api.ErrInput},
	} {
		if kind.Low(c.k) != c.low || kind.High(c.k) != c.high || kind.Border(c.k) != c.border || kind.Check(c.k) != c.e {
			t.Errorf("%v: %d to %d, border %d, %d", c.k, kind.Low(c.k), kind.High(c.k), kind.Border(c.k), kind.Check(c.k))
		}
	}
}

func TestAllAndCount(t *testing.T) {
	for _, k := range kinds() {
		want := places(k.Form)
		if got := walked(t, k); !slices.Equal(got, want) {
			t.Errorf("%v: All tells %v, not %v", k, got, want)
		}
		if n := kind.Count(k); n != len(want) {
			t.Errorf("%v: Count is %d, not %d", k, n, len(want))
		}
	}
	if n := kind.Count(api.Kind{Form: api.Image, Depth: 8}); n != 44 {
		t.Errorf("an image has %d places", n)
	}
	if n := kind.Count(api.Kind{Form: api.Sound, Depth: 8}); n != 31 {
		t.Errorf("a sound has %d places", n)
	}
}

func TestNoPlaceOfAWrongKind(t *testing.T) {
	tried := append(places(api.Image), places(api.Sound)...)
	for _, k := range wrong() {
		if n := kind.Count(k); n != 0 {
			t.Errorf("%v: Count is %d", k, n)
		}
		if kind.All(k) == nil {
			t.Fatalf("%v: All is nil", k)
		}
		if got := walked(t, k); len(got) != 0 {
			t.Errorf("%v: All tells %v", k, got)
		}
		for _, n := range append([]int{-1, 0, 1, 30, 31, 43, 44}, farther...) {
			if p, ok := kind.At(k, n); ok || p != (api.Place{}) {
				t.Errorf("%v: At(%d) = %v, %v", k, n, p, ok)
			}
		}
		for _, p := range append(tried, api.Place{}) {
			if n, ok := kind.Number(k, p); ok || n != 0 {
				t.Errorf("%v: Number(%v) = %d, %v", k, p, n, ok)
			}
		}
	}
}

func TestAllAgainAndStopped(t *testing.T) {
	for _, k := range kinds() {
		want := places(k.Form)
		all := kind.All(k)
		for stop := range want {
			var got []api.Place
			for n, p := range all {
				got = append(got, p)
				if n == stop {
					break
				}
			}
			if !slices.Equal(got, want[:stop+1]) {
				t.Fatalf("%v: stopped at %d, All tells %v", k, stop, got)
			}
		}
		for range 2 {
			var got []api.Place
			for _, p := range all {
				got = append(got, p)
			}
			if !slices.Equal(got, want) {
				t.Fatalf("%v: gone over again, All tells %v", k, got)
			}
		}
	}
}

func TestAllWithinItself(t *testing.T) {
	for _, k := range []api.Kind{{Form: api.Image, Depth: 8}, {Form: api.Sound, Depth: 16}} {
		want := places(k.Form)
		all := kind.All(k)
		outer := 0
		for n, p := range all {
			if n != outer || p != want[outer] {
				t.Fatalf("%v: the outer walk tells %d, %v", k, n, p)
			}
			outer++
			inner := 0
			for m, q := range all {
				if m != inner || q != want[inner] {
					t.Fatalf("%v: the inner walk tells %d, %v", k, m, q)
				}
				if inner++; n%2 == 0 && m == n {
					break
				}
			}
			if whole := len(want); n%2 == 0 && inner != n+1 || n%2 == 1 && inner != whole {
				t.Fatalf("%v: the inner walk at %d tells %d places", k, n, inner)
			}
		}
		if outer != len(want) {
			t.Fatalf("%v: the outer walk tells %d places", k, outer)
		}
	}
}

func TestAt(t *testing.T) {
	for _, k := range kinds() {
		want := places(k.Form)
		for n, p := range want {
			if got, ok := kind.At(k, n); got != p || !ok {
				t.Errorf("%v: At(%d) = %v, %v", k, n, got, ok)
			}
		}
		for _, n := range append([]int{-len(want), -2, -1, len(want), len(want) + 1}, farther...) {
			if p, ok := kind.At(k, n); ok || p != (api.Place{}) {
				t.Errorf("%v: At(%d) = %v, %v", k, n, p, ok)
			}
		}
	}
}

// numbered holds Number against the place's number in the list, if it stands there.
func numbered(t *testing.T, k api.Kind, list []api.Place, p api.Place) {
	t.Helper()
	want := slices.Index(list, p)
	n, ok := kind.Number(k, p)
	if want < 0 && (ok || n != 0) || want >= 0 && (!ok || n != want) {
		t.Errorf("%v: Number(%v) = %d, %v, not %d", k, p, n, ok, want)
	}
}

func TestNumberNearThePlaces(t *testing.T) {
	for _, k := range []api.Kind{{Form: api.Image, Depth: 8}, {Form: api.Sound, Depth: 8}} {
		list := places(k.Form)
		for back := -1; back <= 4; back++ {
			for coords := 0; coords <= 3; coords++ {
				for y := -3; y <= 2; y++ {
					for _, p := range row(back, coords, y, -17, 4) {
						numbered(t, k, list, p)
					}
				}
			}
		}
	}
}

func TestNumberFarFromThePlaces(t *testing.T) {
	for _, k := range kinds() {
		list := places(k.Form)
		for _, p := range list {
			numbered(t, k, list, p)
			for _, n := range farther {
				for _, q := range []api.Place{
					{Back: n, Coords: p.Coords, X: p.X, Y: p.Y},
					{Back: p.Back, Coords: n, X: p.X, Y: p.Y},
					{Back: p.Back, Coords: p.Coords, X: n, Y: p.Y},
					{Back: p.Back, Coords: p.Coords, X: p.X, Y: n},
				} {
					numbered(t, k, list, q)
				}
			}
		}
	}
}

func TestNumberOfExamples(t *testing.T) {
	image, sound := api.Kind{Form: api.Image, Depth: 8}, api.Kind{Form: api.Sound, Depth: 8}
	const none = -1
	for _, c := range []struct {
		k api.Kind
		p api.Place
		n int
	}{
		{image, api.Place{Coords: 2, X: -3, Y: -2}, 0},
		{image, api.Place{Coords: 2, X: 3, Y: -2}, 6},
		{image, api.Place{Coords: 2, X: -3, Y: -1}, 7},
		{image, api.Place{Coords: 2, X: 0, Y: -1}, 10},
		{image, api.Place{Coords: 2, X: -3, Y: 0}, 14},
		{image, api.Place{Coords: 2, X: -1, Y: 0}, 16},
		{image, api.Place{Back: 1, Coords: 2, X: -1, Y: -1}, 17},
		{image, api.Place{Back: 1, Coords: 2, X: 0, Y: 0}, 21},
		{image, api.Place{Back: 2, Coords: 2, X: -1, Y: -1}, 26},
		{image, api.Place{Back: 3, Coords: 2, X: 1, Y: 1}, 43},
		{image, api.Place{Coords: 2}, none},
		{image, api.Place{Coords: 1, X: -1}, none},
		{image, api.Place{Coords: 2, X: -4, Y: -1}, none},
		{image, api.Place{Coords: 2, X: -3, Y: -3}, none},
		{image, api.Place{Back: 1, Coords: 2, X: 2}, none},
		{image, api.Place{Back: 4, Coords: 2}, none},
		{image, api.Place{Back: -1, Coords: 2}, none},
		{image, api.Place{Coords: 3, X: -1}, none},
		{sound, api.Place{Coords: 1, X: -16}, 0},
		{sound, api.Place{Coords: 1, X: -1}, 15},
		{sound, api.Place{Back: 1, Coords: 1, X: -4}, 16},
		{sound, api.Place{Back: 1, Coords: 1}, 20},
		{sound, api.Place{Back: 3, Coords: 1, X: -4}, 26},
		{sound, api.Place{Back: 3, Coords: 1}, 30},
		{sound, api.Place{Coords: 1}, none},
		{sound, api.Place{Coords: 1, X: -17}, none},
		{sound, api.Place{Coords: 1, X: -1, Y: -1}, none},
		{sound, api.Place{Coords: 2, X: -1}, none},
		{sound, api.Place{Back: 1, Coords: 1, X: 1}, none},
		{sound, api.Place{Back: 1, Coords: 1, X: -5}, none},
		{sound, api.Place{Back: 4, Coords: 1}, none},
		{sound, api.Place{Back: -1, Coords: 1, X: -1}, none},
	} {
		n, ok := kind.Number(c.k, c.p)
		if c.n == none && (ok || n != 0) || c.n != none && (!ok || n != c.n) {
			t.Errorf("%v: Number(%v) = %d, %v", c.k, c.p, n, ok)
		}
	}
}

func TestInput(t *testing.T) {
	for _, k := range kinds() {
		low, high, border := kind.Low(k), kind.High(k), kind.Border(k)
		want := []api.Span{{Lo: 0, Hi: 4095}, {Lo: 0, Hi: 4095}, {Lo: 0, Hi: 3}, {Lo: low, Hi: low}, {Lo: high, Hi: high}, {Lo: border, Hi: border}}
		if k.Form == api.Sound {
			want[api.InX], want[api.InY] = api.Span{Lo: 0, Hi: 1<<20 - 1}, api.Span{}
		}
		for n, s := range want {
			if got, ok := kind.Input(k, n); got != s || !ok {
				t.Errorf("%v: Input(%d) = %v, %v", k, n, got, ok)
			}
		}
		for _, n := range append([]int{-2, -1, 6, 7}, farther...) {
			if got, ok := kind.Input(k, n); ok || got != (api.Span{}) {
				t.Errorf("%v: Input(%d) = %v, %v", k, n, got, ok)
			}
		}
	}
	for _, k := range wrong() {
		for n := -1; n <= 6; n++ {
			if got, ok := kind.Input(k, n); ok || got != (api.Span{}) {
				t.Errorf("%v: Input(%d) = %v, %v", k, n, got, ok)
			}
		}
	}
}

// window answers a window of the kind whose samples are all the same.
func window(k api.Kind, sample int) api.Window {
	return api.Window{P: slices.Repeat([]int{sample}, len(places(k.Form)))}
}

// fits holds Fits against what it should answer.
func fits(t *testing.T, k api.Kind, w api.Window, want api.Errno) {
	t.Helper()
	if e := kind.Fits(k, w); e != want {
		t.Errorf("Fits(%v, %v) = %d", k, w, e)
	}
}

func TestFitsSamples(t *testing.T) {
	for _, k := range kinds() {
		low, high := kind.Low(k), kind.High(k)
		for _, sample := range []int{low, high, kind.Border(k)} {
			fits(t, k, window(k, sample), api.OK)
		}
		for n := range places(k.Form) {
			for _, sample := range append([]int{low - 1, high + 1}, farther...) {
				w := window(k, low)
				w.P[n] = sample
				fits(t, k, w, api.ErrInput)
			}
		}
	}
}

func TestFitsCount(t *testing.T) {
	for _, k := range kinds() {
		for n := range 50 {
			want := api.ErrInput
			if n == len(places(k.Form)) {
				want = api.OK
			}
			fits(t, k, api.Window{P: make([]int, n)}, want)
		}
		fits(t, k, api.Window{}, api.ErrInput)
	}
}

func TestFitsInputs(t *testing.T) {
	for _, k := range kinds() {
		x, y := 4095, 4095
		if k.Form == api.Sound {
			x, y = 1<<20-1, 0
		}
		w := window(k, 0)
		w.X, w.Y, w.C = x, y, 3
		fits(t, k, w, api.OK)
		for _, c := range []struct {
			at   *int
			most int
		}{{&w.X, x}, {&w.Y, y}, {&w.C, 3}} {
			for _, n := range []int{0, c.most / 2, c.most} {
				*c.at = n
				fits(t, k, w, api.OK)
			}
			for _, n := range []int{-1, c.most + 1, math.MinInt64, math.MaxInt64} {
				*c.at = n
				fits(t, k, w, api.ErrInput)
			}
			*c.at = c.most
		}
	}
}

func TestFitsOfAWrongKind(t *testing.T) {
	for _, k := range wrong() {
		fits(t, k, api.Window{}, api.ErrInput)
		fits(t, k, api.Window{P: make([]int, 44)}, api.ErrInput)
		fits(t, k, api.Window{P: make([]int, 31)}, api.ErrInput)
	}
}

func TestFitsLeavesTheWindow(t *testing.T) {
	for _, k := range kinds() {
		n := len(places(k.Form))
		for _, wrong := range []bool{false, true} {
			room := slices.Repeat([]int{kind.High(k)}, n+9)
			if wrong {
				room[n-1]++
			}
			held := slices.Clone(room)
			kind.Fits(k, api.Window{P: room[:n]})
			if !slices.Equal(room, held) {
				t.Errorf("%v: Fits writes into the window", k)
			}
		}
	}
}

// TestPlacesAreAhead: promise 3.6.
func TestPlacesAreAhead(t *testing.T) {
	for _, k := range kinds() {
		seen := map[api.Place]bool{}
		for _, p := range kind.All(k) {
			if seen[p] {
				t.Errorf("%v: %v comes twice", k, p)
			}
			seen[p] = true
			ahead := p.Back == 0 && p.X < 0 || p.Back > 0 && p.X <= 0
			if k.Form == api.Image {
				ahead = p.Back > 0 || p.Back == 0 && (p.Y < 0 || p.Y == 0 && p.X < 0)
			}
			if !ahead || p.Back >= api.MaxPlanes {
				t.Errorf("%v: %v isn't ahead of the sample", k, p)
			}
		}
		if len(seen) != kind.Count(k) {
			t.Errorf("%v: %d places, not %d", k, len(seen), kind.Count(k))
		}
	}
}
