package signal_test

import (
	"fmt"
	"slices"
	"testing"

	"damask/api"
	"damask/kind"
	"damask/signal"
)

// shown answers a signal as a text: its first samples, if it has many.
func shown(s api.Signal) string {
	return fmt.Sprintf("%v %dx%dx%d with %d samples %v", s.Kind, s.Planes, s.Width, s.Height, len(s.Samples), s.Samples[:min(len(s.Samples), 20)])
}

// The chapter's examples.
func TestExamples(t *testing.T) {
	if n, e := signal.Shape(image, 3, 4, 5); n != 60 || e != api.OK {
		t.Errorf("the image has %d samples, %d", n, e)
	}
	stands(t, made(t, extent{image, 3, 4, 5}), 34, spot{1, 2, 3})
	if n, e := signal.Shape(sound, 2, 7, 1); n != 14 || e != api.OK {
		t.Errorf("the sound has %d samples, %d", n, e)
	}
	stands(t, made(t, extent{sound, 2, 7, 1}), 7, spot{plane: 1, x: 3})
	if n, e := signal.Shape(image, 2, 1024, 1024); n != 0 || e != api.ErrSignal {
		t.Errorf("2 planes of 1024 x 1024 have %d samples, %d", n, e)
	}
}

// 23.1

// Every bound of every kind: its last good value and one past it.
func TestShapeAtItsBounds(t *testing.T) {
	for _, k := range kinds() {
		good := []extent{{k, 1, 1, 1}, {k, 4, 1, 1}, {k, 1, 4096, 1}, {k, 4, 4096, 1}}
		bad := []extent{{k, 0, 1, 1}, {k, -1, 1, 1}, {k, 5, 1, 1}, {k, 1, 0, 1}, {k, 1, -1, 1}, {k, 1, 1, 0}, {k, 1, 1, -1}, {k, 1, 1048577, 1}, {k, 0, 4096, 1}, {k, 5, 4096, 1}}
		if k.Form == api.Image {
			good = append(good, extent{k, 1, 1, 4096}, extent{k, 4, 1, 4096}, extent{k, 1, 4096, 256}, extent{k, 1, 256, 4096})
			bad = append(bad, extent{k, 1, 4097, 1}, extent{k, 1, 1, 4097}, extent{k, 4, 4097, 1}, extent{k, 4, 1, 4097}, extent{k, 1, 4096, 257}, extent{k, 1, 257, 4096})
		} else {
			good = append(good, extent{k, 1, 4097, 1}, extent{k, 1, 1048576, 1}, extent{k, 2, 524288, 1}, extent{k, 3, 349525, 1}, extent{k, 4, 262144, 1})
			bad = append(bad, extent{k, 1, 1, 2}, extent{k, 1, 7, 2}, extent{k, 1, 1, 4096}, extent{k, 2, 524289, 1}, extent{k, 3, 349526, 1}, extent{k, 4, 262145, 1})
		}
		for _, x := range good {
			if n, e := signal.Shape(x.k, x.planes, x.width, x.height); n != x.planes*x.width*x.height || e != api.OK {
				t.Errorf("Shape(%v) = %d, %d", x, n, e)
			}
		}
		for _, x := range bad {
			if n, e := signal.Shape(x.k, x.planes, x.width, x.height); n != 0 || e != api.ErrSignal {
				t.Errorf("Shape(%v) = %d, %d", x, n, e)
			}
		}
	}
}

func TestShapeOfStrangeKinds(t *testing.T) {
	for _, k := range strange() {
		for _, x := range []extent{{k, 1, 1, 1}, {k, 3, 4, 5}, {k, 2, 7, 1}, {k, 0, 0, 0}, {k, 9, 9, 9}, {k, 1, 1048576, 1}} {
			if n, e := signal.Shape(x.k, x.planes, x.width, x.height); n != 0 || e != api.ErrSignal {
				t.Errorf("Shape(%v) = %d, %d", x, n, e)
			}
		}
	}
}

// The greatest product that may be, and the least that may not, with each count of planes and columns.
func TestShapeAtMaxSamples(t *testing.T) {
	for planes := 1; planes <= 4; planes++ {
		for width := 1; width <= 4096; width++ {
			height := 1048576 / (planes * width)
			shaped(t, extent{image, planes, width, height})
			shaped(t, extent{image, planes, width, height + 1})
			shaped(t, extent{image, planes, height, width})
			shaped(t, extent{image, planes, height + 1, width})
		}
		shaped(t, extent{sound, planes, 1048576 / planes, 1})
		shaped(t, extent{sound, planes, 1048576/planes + 1, 1})
	}
	for _, c := range []struct {
		x extent
		n int
	}{
		{extent{image, 3, 341, 1025}, 1048575}, {extent{image, 3, 1025, 341}, 1048575}, {extent{image, 4, 512, 512}, 1048576}, {extent{image, 4, 512, 513}, 0}, {extent{image, 3, 342, 1025}, 0},
		{extent{image, 1, 1023, 1025}, 1048575}, {extent{image, 1, 1024, 1024}, 1048576}, {extent{image, 1, 1025, 1024}, 0}, {extent{image, 2, 1024, 512}, 1048576}, {extent{image, 2, 512, 1025}, 0},
	} {
		e := api.OK
		if c.n == 0 {
			e = api.ErrSignal
		}
		if n, f := signal.Shape(c.x.k, c.x.planes, c.x.width, c.x.height); n != c.n || f != e {
			t.Errorf("Shape(%v) = %d, %d", c.x, n, f)
		}
	}
}

// All threes of numbers at bounds and far from them; the products of many don't fit an int.
func TestShapeOfAllNumbers(t *testing.T) {
	list := append([]int{-4097, -4, -2, -1, 0, 1, 2, 3, 4, 5, 6, 255, 256, 257, 511, 512, 513, 1023, 1024, 1025, 4095, 4096, 4097, 262144, 262145, 349525, 524288, 524289, 1048575, 1048576, 1048577}, far...)
	good := 0
	tuples(list, 3, func(n []int) {
		for _, k := range []api.Kind{image, sound, {Form: api.Image, Depth: 16}, {Form: 2, Depth: 8}} {
			x := extent{k, n[0], n[1], n[2]}
			shaped(t, x)
			if _, ok := x.count(); ok {
				good++
			}
		}
	})
	if good < 1000 {
		t.Errorf("%d shapes may be", good)
	}
}

func TestShapesThatMayNotBe(t *testing.T) {
	for _, x := range shapeless() {
		if n, e := signal.Shape(x.k, x.planes, x.width, x.height); n != 0 || e != api.ErrSignal {
			t.Errorf("Shape(%v) = %d, %d", x, n, e)
		}
	}
}

// 23.2

// Every count of samples but the right one is refused.
func TestCheckOfTheCount(t *testing.T) {
	for _, x := range small() {
		want, _ := x.count()
		for count := range 2*want + 3 {
			e := api.ErrSignal
			if count == want {
				e = api.OK
			}
			checked(t, x.filled(count, 1), e)
		}
		checked(t, x.with(nil), api.ErrSignal)
	}
	for _, x := range great() {
		want, _ := x.count()
		checked(t, x.filled(want, 1), api.OK)
		checked(t, x.filled(want-1, 1), api.ErrSignal)
		checked(t, x.filled(want+1, 1), api.ErrSignal)
		checked(t, x.with(nil), api.ErrSignal)
	}
}

// The ends of the samples at every depth, and one past them, at every place.
func TestCheckOfTheSamples(t *testing.T) {
	for _, k := range kinds() {
		low, high, border := samples(k)
		for _, x := range []extent{{k, 1, 1, 1}, {k, 2, 3, 1}, {k, 3, 5, 1}} {
			count, _ := x.count()
			for i := range count {
				for _, filling := range []int{low, border, high} {
					s := x.filled(count, filling)
					for _, good := range []int{low, border, high, 0, border - 1} {
						s.Samples[i] = good
						checked(t, s, api.OK)
					}
					for _, bad := range append([]int{low - 1, high + 1, low - high - 1, 2*high + 2}, far...) {
						s.Samples[i] = bad
						checked(t, s, api.ErrSignal)
					}
				}
			}
		}
	}
}

func TestCheckOfTheSamplesByHand(t *testing.T) {
	for _, c := range []struct {
		k    api.Kind
		list []int
		e    api.Errno
	}{
		{image, []int{0, 255, 128, 1}, api.OK}, {image, []int{-1, 0, 0, 0}, api.ErrSignal}, {image, []int{0, 256, 0, 0}, api.ErrSignal}, {image, []int{0, 0, 0, -1}, api.ErrSignal},
		{sound, []int{-128, 127, 0, -1}, api.OK}, {sound, []int{-129, 0, 0, 0}, api.ErrSignal}, {sound, []int{0, 0, 128, 0}, api.ErrSignal}, {sound, []int{0, 0, 0, 255}, api.ErrSignal},
		{api.Kind{Form: api.Image, Depth: 1}, []int{0, 1, 1, 0}, api.OK}, {api.Kind{Form: api.Image, Depth: 1}, []int{0, 1, 2, 0}, api.ErrSignal}, {api.Kind{Form: api.Image, Depth: 1}, []int{-1, 1, 0, 0}, api.ErrSignal},
		{api.Kind{Form: api.Sound, Depth: 1}, []int{0, -1, -1, 0}, api.OK}, {api.Kind{Form: api.Sound, Depth: 1}, []int{0, 1, 0, 0}, api.ErrSignal}, {api.Kind{Form: api.Sound, Depth: 1}, []int{0, 0, 0, -2}, api.ErrSignal},
		{api.Kind{Form: api.Image, Depth: 16}, []int{0, 65535, 32768, 1}, api.OK}, {api.Kind{Form: api.Image, Depth: 16}, []int{0, 65536, 0, 0}, api.ErrSignal},
		{api.Kind{Form: api.Sound, Depth: 16}, []int{-32768, 32767, 0, 1}, api.OK}, {api.Kind{Form: api.Sound, Depth: 16}, []int{0, 0, 0, 32768}, api.ErrSignal}, {api.Kind{Form: api.Sound, Depth: 16}, []int{-32769, 0, 0, 0}, api.ErrSignal},
	} {
		checked(t, extent{c.k, 1, 4, 1}.with(c.list), c.e)
		checked(t, extent{c.k, 2, 2, 1}.with(c.list), c.e)
	}
}

// One sample of as many as there may be.
func TestCheckOfGreatSignals(t *testing.T) {
	for _, x := range great() {
		low, high, _ := samples(x.k)
		count, _ := x.count()
		s := x.filled(count, high)
		for _, i := range []int{0, 1, 4095, 4096, count / 2, count - 2, count - 1} {
			for _, bad := range []int{low - 1, high + 1} {
				s.Samples[i] = bad
				checked(t, s, api.ErrSignal)
			}
			s.Samples[i] = low
			checked(t, s, api.OK)
		}
	}
}

// Whatever samples there are, a shape that may not be is refused.
func TestCheckOfShapes(t *testing.T) {
	for _, x := range shapeless() {
		for count := range 25 {
			checked(t, x.filled(count, 0), api.ErrSignal)
		}
		if product := x.planes * x.width * x.height; product > 0 && product <= 1<<21 {
			checked(t, x.filled(product, 0), api.ErrSignal)
		}
	}
}

func TestNew(t *testing.T) {
	for _, k := range kinds() {
		_, _, border := samples(k)
		for _, x := range []extent{{k, 1, 1, 1}, {k, 4, 1, 1}, {k, 1, 4096, 1}, {k, 3, 7, 1}, {k, 4, 4096, 1}} {
			count, _ := x.count()
			s := made(t, x)
			if !alike(s, x.filled(count, border)) {
				t.Errorf("New(%v) = %s", x, shown(s))
			}
			checked(t, s, api.OK)
		}
	}
	for _, x := range append(small(), great()...) {
		_, _, border := samples(x.k)
		count, _ := x.count()
		if s := made(t, x); !alike(s, x.filled(count, border)) {
			t.Errorf("New(%v) = %s", x, shown(s))
		}
	}
}

// alike tells whether two signals are alike, by the words of the chapter.
func alike(a, b api.Signal) bool {
	if a.Kind.Form != b.Kind.Form || a.Kind.Depth != b.Kind.Depth || a.Planes != b.Planes || a.Width != b.Width || a.Height != b.Height || len(a.Samples) != len(b.Samples) {
		return false
	}
	for i, sample := range a.Samples {
		if sample != b.Samples[i] {
			return false
		}
	}
	return true
}

func TestNewByHand(t *testing.T) {
	for _, c := range []struct {
		x    extent
		want api.Signal
	}{
		{extent{image, 1, 2, 2}, api.Signal{Kind: image, Planes: 1, Width: 2, Height: 2, Samples: []int{128, 128, 128, 128}}},
		{extent{sound, 2, 3, 1}, api.Signal{Kind: sound, Planes: 2, Width: 3, Height: 1, Samples: []int{0, 0, 0, 0, 0, 0}}},
		{extent{api.Kind{Depth: 1}, 3, 1, 1}, api.Signal{Kind: api.Kind{Depth: 1}, Planes: 3, Width: 1, Height: 1, Samples: []int{1, 1, 1}}},
		{extent{api.Kind{Depth: 16}, 1, 1, 2}, api.Signal{Kind: api.Kind{Depth: 16}, Planes: 1, Width: 1, Height: 2, Samples: []int{32768, 32768}}},
	} {
		if s := made(t, c.x); !alike(s, c.want) {
			t.Errorf("New(%v) = %s", c.x, shown(s))
		}
	}
}

func TestNewOfShapesThatMayNotBe(t *testing.T) {
	for _, x := range shapeless() {
		s, e := signal.New(x.k, x.planes, x.width, x.height)
		if !alike(s, api.Signal{}) || e != api.ErrSignal {
			t.Errorf("New(%v) = %s, %d", x, shown(s), e)
		}
	}
}

// Each signal is the same as its copy, and as none that differs from it in one thing.
func TestSame(t *testing.T) {
	base := []extent{{image, 2, 3, 4}, {image, 1, 1, 1}, {sound, 2, 12, 1}, {image, 5, 4097, 0}, {api.Kind{Form: 2, Depth: -1}, -1, -2, -3}, {}}
	for _, x := range base {
		for _, list := range [][]int{nil, {0}, {1, 2, 3}, slices.Repeat([]int{7}, 24), {-1, 300, 1 << 40}} {
			a := x.with(list)
			same(t, a, x.with(slices.Clone(list)), true)
			for _, other := range []extent{
				{api.Kind{Form: x.k.Form + 1, Depth: x.k.Depth}, x.planes, x.width, x.height},
				{api.Kind{Form: x.k.Form, Depth: x.k.Depth + 1}, x.planes, x.width, x.height},
				{x.k, x.planes + 1, x.width, x.height}, {x.k, x.planes, x.width - 1, x.height}, {x.k, x.planes, x.width, x.height + 1},
				{x.k, x.planes, x.width, x.height + 1<<32}, {x.k, x.planes + 1<<32, x.width, x.height},
			} {
				same(t, a, other.with(slices.Clone(list)), false)
			}
			for i := range list {
				b := x.with(slices.Clone(list))
				b.Samples[i]++
				same(t, a, b, false)
				same(t, a, x.with(list[:i]), false)
				same(t, a, x.with(list[i:]), i == 0)
			}
			same(t, a, x.with(append(slices.Clone(list), 0)), false)
			same(t, a, x.with(append(slices.Clone(list), 7)), false)
		}
	}
}

// same asks Same both ways round.
func same(t *testing.T, a, b api.Signal, want bool) {
	t.Helper()
	if signal.Same(a, b) != want || signal.Same(b, a) != want {
		t.Errorf("Same(%s, %s) isn't %v", shown(a), shown(b), want)
	}
}

// All pairs of 224 small signals, most of which may not be.
func TestSameOfAllSmallOnes(t *testing.T) {
	var list []api.Signal
	tuples([]int{0, 1}, 5, func(n []int) {
		for _, samples := range [][]int{nil, {0}, {1}, {0, 0}, {0, 1}, {1, 0}, {1, 1}} {
			list = append(list, extent{api.Kind{Form: n[0], Depth: n[1]}, n[2], n[3], n[4]}.with(samples))
		}
	})
	for i, a := range list {
		for j, b := range list {
			if got := signal.Same(a, b); got != (i == j) {
				t.Errorf("Same(%s, %s) = %v", shown(a), shown(b), got)
			}
		}
	}
}

func TestSameOfGreatOnes(t *testing.T) {
	for _, x := range great() {
		a, b := made(t, x), made(t, x)
		same(t, a, b, true)
		for _, i := range []int{0, len(a.Samples) / 2, len(a.Samples) - 1} {
			b.Samples[i]++
			same(t, a, b, false)
			b.Samples[i]--
		}
		b.Samples = b.Samples[:len(b.Samples)-1]
		same(t, a, b, false)
	}
}

// 23.3

// The order written out by hand.
func TestOrderByHand(t *testing.T) {
	for _, c := range []struct {
		x    extent
		list []spot
	}{
		{extent{image, 2, 3, 2}, []spot{{0, 0, 0}, {0, 1, 0}, {0, 2, 0}, {0, 0, 1}, {0, 1, 1}, {0, 2, 1}, {1, 0, 0}, {1, 1, 0}, {1, 2, 0}, {1, 0, 1}, {1, 1, 1}, {1, 2, 1}}},
		{extent{image, 3, 1, 2}, []spot{{0, 0, 0}, {0, 0, 1}, {1, 0, 0}, {1, 0, 1}, {2, 0, 0}, {2, 0, 1}}},
		{extent{image, 1, 4, 1}, []spot{{0, 0, 0}, {0, 1, 0}, {0, 2, 0}, {0, 3, 0}}},
		{extent{image, 1, 1, 3}, []spot{{0, 0, 0}, {0, 0, 1}, {0, 0, 2}}},
		{extent{image, 4, 1, 1}, []spot{{0, 0, 0}, {1, 0, 0}, {2, 0, 0}, {3, 0, 0}}},
		{extent{sound, 2, 3, 1}, []spot{{0, 0, 0}, {1, 0, 0}, {0, 1, 0}, {1, 1, 0}, {0, 2, 0}, {1, 2, 0}}},
		{extent{sound, 3, 2, 1}, []spot{{0, 0, 0}, {1, 0, 0}, {2, 0, 0}, {0, 1, 0}, {1, 1, 0}, {2, 1, 0}}},
		{extent{sound, 1, 3, 1}, []spot{{0, 0, 0}, {0, 1, 0}, {0, 2, 0}}},
		{extent{sound, 4, 1, 1}, []spot{{0, 0, 0}, {1, 0, 0}, {2, 0, 0}, {3, 0, 0}}},
	} {
		s := made(t, c.x)
		for i, p := range c.list {
			stands(t, s, i, p)
		}
		noWhere(t, s, -1)
		noWhere(t, s, len(c.list))
	}
}

// All places of small shapes, and all that is just outside.
func TestOrderOfSmallShapes(t *testing.T) {
	for _, x := range small() {
		s, list := made(t, x), x.order()
		for i, p := range list {
			stands(t, s, i, p)
		}
		for plane := -2; plane <= x.planes+1; plane++ {
			for column := -2; column <= x.width+1; column++ {
				for row := -2; row <= x.height+1; row++ {
					if p := (spot{plane, column, row}); !slices.Contains(list, p) {
						noIndex(t, s, p)
					}
				}
			}
		}
		for past := range 10 {
			noWhere(t, s, -1-past)
			noWhere(t, s, len(list)+past)
		}
	}
}

// Every kind has its form's order, whatever its depth.
func TestOrderOfEveryKind(t *testing.T) {
	for _, k := range kinds() {
		s := made(t, extent{k, 3, 2, 1})
		list := []spot{{0, 0, 0}, {0, 1, 0}, {1, 0, 0}, {1, 1, 0}, {2, 0, 0}, {2, 1, 0}}
		if k.Form == api.Sound {
			list = []spot{{0, 0, 0}, {1, 0, 0}, {2, 0, 0}, {0, 1, 0}, {1, 1, 0}, {2, 1, 0}}
		}
		for i, p := range list {
			stands(t, s, i, p)
		}
	}
}

// The ends of great shapes, by hand, and what is just outside of them.
func TestOrderOfGreatShapes(t *testing.T) {
	for _, c := range []struct {
		x extent
		i int
		p spot
	}{
		{extent{image, 1, 4096, 256}, 4095, spot{0, 4095, 0}}, {extent{image, 1, 4096, 256}, 4096, spot{0, 0, 1}}, {extent{image, 1, 4096, 256}, 1048575, spot{0, 4095, 255}},
		{extent{image, 1, 256, 4096}, 255, spot{0, 255, 0}}, {extent{image, 1, 256, 4096}, 1048320, spot{0, 0, 4095}}, {extent{image, 1, 256, 4096}, 1048575, spot{0, 255, 4095}},
		{extent{image, 4, 512, 512}, 262143, spot{0, 511, 511}}, {extent{image, 4, 512, 512}, 262144, spot{1, 0, 0}}, {extent{image, 4, 512, 512}, 524799, spot{2, 511, 0}}, {extent{image, 4, 512, 512}, 786432, spot{3, 0, 0}}, {extent{image, 4, 512, 512}, 1048575, spot{3, 511, 511}},
		{extent{image, 3, 341, 1025}, 349525, spot{1, 0, 0}}, {extent{image, 3, 341, 1025}, 699049, spot{1, 340, 1024}}, {extent{image, 3, 341, 1025}, 1048574, spot{2, 340, 1024}},
		{extent{sound, 1, 1048576, 1}, 0, spot{0, 0, 0}}, {extent{sound, 1, 1048576, 1}, 1048575, spot{0, 1048575, 0}},
		{extent{sound, 4, 262144, 1}, 3, spot{3, 0, 0}}, {extent{sound, 4, 262144, 1}, 524289, spot{1, 131072, 0}}, {extent{sound, 4, 262144, 1}, 1048572, spot{0, 262143, 0}}, {extent{sound, 4, 262144, 1}, 1048575, spot{3, 262143, 0}},
		{extent{sound, 3, 349525, 1}, 1048572, spot{0, 349524, 0}}, {extent{sound, 3, 349525, 1}, 1048574, spot{2, 349524, 0}},
	} {
		stands(t, c.x.with(nil), c.i, c.p)
	}
	for _, x := range great() {
		s := x.with(nil)
		count, _ := x.count()
		noWhere(t, s, -1)
		noWhere(t, s, count)
		last := spot{x.planes - 1, x.width - 1, x.height - 1}
		stands(t, s, count-1, last)
		for _, p := range []spot{{0, 0, -1}, {0, -1, 0}, {-1, 0, 0}, {0, 0, x.height}, {0, x.width, 0}, {x.planes, 0, 0}, {last.plane, last.x, x.height}, {last.plane, x.width, last.y}, {x.planes, last.x, last.y}} {
			noIndex(t, s, p)
		}
	}
}

// Numbers far from all places, of which some come to a place when they wrap.
func TestOrderFarOutside(t *testing.T) {
	for _, x := range append(great(), extent{image, 3, 4, 5}, extent{sound, 2, 7, 1}, extent{image, 4, 64, 64}, extent{sound, 4, 64, 1}) {
		s := x.with(nil)
		for _, n := range far {
			noWhere(t, s, n)
			noIndex(t, s, spot{n, 0, 0})
			noIndex(t, s, spot{0, n, 0})
			noIndex(t, s, spot{0, 0, n})
		}
		tuples(append([]int{-1, 0}, far...), 3, func(n []int) {
			if n[0] != 0 || n[1] != 0 || n[2] != 0 {
				noIndex(t, s, spot{n[0], n[1], n[2]})
			}
		})
	}
}

// A shape that may not be has no place, whatever samples there are.
func TestNoPlaceOfShapesThatMayNotBe(t *testing.T) {
	for _, x := range shapeless() {
		for _, s := range []api.Signal{x.with(nil), x.filled(1, 0), x.filled(20, 1)} {
			for _, i := range append([]int{-1, 0, 1, 5, 19, 1048575, 1048576}, far...) {
				noWhere(t, s, i)
			}
			tuples([]int{-1, 0, 1, 3, 4096}, 3, func(n []int) { noIndex(t, s, spot{n[0], n[1], n[2]}) })
		}
	}
}

// Samples that don't match their shape change nothing.
func TestSamplesAreNotLookedAt(t *testing.T) {
	for _, x := range []extent{{image, 3, 4, 5}, {image, 1, 1, 1}, {sound, 2, 7, 1}, {sound, 1, 1, 1}} {
		list := x.order()
		for _, s := range []api.Signal{x.with(nil), x.with([]int{}), x.with([]int{1}), x.filled(len(list)-1, 0), x.filled(len(list)+1, 0), x.filled(len(list), -1000), x.filled(len(list), 1<<62)} {
			for i, p := range list {
				stands(t, s, i, p)
			}
			noWhere(t, s, -1)
			noWhere(t, s, len(list))
			noIndex(t, s, spot{x.planes, 0, 0})
			noIndex(t, s, spot{0, x.width, 0})
			noIndex(t, s, spot{0, 0, x.height})
		}
	}
}

// 23.4

// Each place is the place of one sample, and each sample has one place: of all small shapes, and of great ones.
func TestOneToOne(t *testing.T) {
	for _, x := range append(small(), great()...) {
		s := x.with(nil)
		count, _ := x.count()
		met := make([]bool, count)
		for plane := range x.planes {
			for row := range x.height {
				for column := range x.width {
					i, ok := signal.Index(s, plane, column, row)
					if !ok || i < 0 || i >= count || met[i] {
						t.Fatalf("Index(%s, %d, %d, %d) = %d, %v", shown(s), plane, column, row, i, ok)
					}
					met[i] = true
					if p, c, r, ok := signal.Where(s, i); !ok || p != plane || c != column || r != row {
						t.Fatalf("Where(%s, %d) = %d, %d, %d, %v", shown(s), i, p, c, r, ok)
					}
				}
			}
		}
		for i := range count {
			p, c, r, ok := signal.Where(s, i)
			if n, there := signal.Index(s, p, c, r); !ok || !there || n != i {
				t.Fatalf("%s: the place %d is %d, %d, %d, %v, whose place is %d, %v", shown(s), i, p, c, r, ok, n, there)
			}
		}
	}
}

// P1

// No call changes what it is handed, nor the spare room behind it.
func TestNothingIsChanged(t *testing.T) {
	for _, x := range append(small(), extent{image, 5, 4, 5}, extent{sound, 1, 3, 2}) {
		for _, count := range []int{0, 1, x.planes * x.width * x.height, 20} {
			for _, sample := range []int{0, 1, -5000} {
				list, all := roomy(x.filled(count, sample).Samples)
				before := slices.Clone(all)
				s := x.with(list)
				signal.Check(s)
				signal.Index(s, 0, 0, 0)
				signal.Where(s, 0)
				signal.Same(s, s)
				signal.Same(s, x.filled(count, sample))
				if !slices.Equal(all, before) {
					t.Errorf("%s: the samples became %v", shown(s), all)
				}
			}
		}
	}
}

// Spare room behind the samples isn't looked at.
func TestSpareRoomIsNotLookedAt(t *testing.T) {
	list, _ := roomy([]int{1, 2, 3})
	s := extent{image, 1, 3, 1}.with(list)
	checked(t, s, api.OK)
	checked(t, extent{image, 1, 4, 1}.with(list), api.ErrSignal)
	same(t, s, extent{image, 1, 3, 1}.with([]int{1, 2, 3}), true)
	same(t, s, extent{image, 1, 3, 1}.with([]int{1, 2, 3, -77}), false)
}

// What is written into what New has handed out, spare room included, isn't seen in other signals, earlier or later.
func TestHandedOutIsNew(t *testing.T) {
	for _, x := range append(small(), great()...) {
		_, _, border := samples(x.k)
		count, _ := x.count()
		want := x.filled(count, border)
		a, b := made(t, x), made(t, x)
		for _, written := range []api.Signal{a, made(t, x), made(t, x)} {
			room := written.Samples[:cap(written.Samples)]
			for i := range room {
				room[i] = border + 1 + i%3
			}
			if c := made(t, x); !alike(b, want) || !alike(c, want) {
				t.Fatalf("%v: written over, other signals are %s and %s", x, shown(b), shown(c))
			}
		}
	}
}

// What is written over a signal behind a call is seen by the next one alone as it then is.
func TestSignalsAreNotKept(t *testing.T) {
	s := made(t, extent{image, 2, 2, 2})
	other := extent{image, 2, 2, 2}.filled(8, 128)
	for i := range s.Samples {
		checked(t, s, api.OK)
		same(t, s, other, i == 0)
		s.Samples[i] = 256
		checked(t, s, api.ErrSignal)
		same(t, s, other, false)
		s.Samples[i] = 127
	}
	checked(t, s, api.OK)
	for i := range s.Samples {
		s.Samples[i] = 128
	}
	same(t, s, other, true)
}

func TestEmptyListsAreNone(t *testing.T) {
	empty := [][]int{nil, {}, make([]int, 0, 9), []int{1, 2, 3}[:0]}
	for _, a := range empty {
		for _, b := range empty {
			same(t, extent{image, 1, 2, 3}.with(a), extent{image, 1, 2, 3}.with(b), true)
			same(t, extent{}.with(a), extent{}.with(b), true)
			same(t, extent{image, 1, 2, 3}.with(a), extent{sound, 1, 2, 3}.with(b), false)
		}
		checked(t, extent{image, 1, 1, 1}.with(a), api.ErrSignal)
		checked(t, extent{image, 0, 1, 1}.with(a), api.ErrSignal)
		checked(t, extent{}.with(a), api.ErrSignal)
	}
}

// draw answers a source of numbers below a bound, the same at each run.
func draw(seed uint64) func(int) int {
	state := seed*0x9e3779b97f4a7c15 + 1
	return func(bound int) int {
		state ^= state << 13
		state ^= state >> 7
		state ^= state << 17
		return int(state >> 33 % uint64(bound))
	}
}

// Any numbers in any place: whatever they are, there is the chapter's answer.
func TestWild(t *testing.T) {
	next := draw(23)
	list := append([]int{-2, -1, 0, 1, 2, 3, 4, 5, 8, 16, 17, 4096, 4097, 1048576}, far...)
	number := func() int {
		if next(3) > 0 {
			return next(7) - 1
		}
		return list[next(len(list))]
	}
	good, in := 0, 0
	for range 200000 {
		x := extent{api.Kind{Form: next(3), Depth: number()}, number(), number(), number()}
		if next(4) == 0 {
			x.height = 1
		}
		s := x.filled(next(20), next(3)-1)
		count, ok := x.count()
		shaped(t, x)
		if !ok {
			checked(t, s, api.ErrSignal)
			noWhere(t, s, number())
			noIndex(t, s, spot{number(), number(), number()})
			continue
		}
		good++
		p := spot{number(), number(), number()}
		if next(2) == 0 {
			p = spot{next(x.planes), next(x.width), next(x.height)}
		}
		if p.plane < 0 || p.plane >= x.planes || p.x < 0 || p.x >= x.width || p.y < 0 || p.y >= x.height {
			noIndex(t, s, p)
		} else {
			i := (p.plane*x.height+p.y)*x.width + p.x
			if x.k.Form == api.Sound {
				i = p.x*x.planes + p.plane
			}
			stands(t, s, i, p)
			in++
		}
		if i := number(); i < 0 || i >= count {
			noWhere(t, s, i)
		}
	}
	if good < 5000 || in < 4000 {
		t.Errorf("%d shapes may be, %d samples are there", good, in)
	}
}

// The tests' own kinds and samples are those of the layer below.
func TestTheTestsModel(t *testing.T) {
	for _, k := range kinds() {
		low, high, border := samples(k)
		if kind.Check(k) != api.OK || low != kind.Low(k) || high != kind.High(k) || border != kind.Border(k) {
			t.Errorf("%v: %d, %d, %d", k, low, high, border)
		}
	}
	for _, k := range strange() {
		if kind.Check(k) == api.OK {
			t.Errorf("%v may be", k)
		}
	}
	for _, x := range append(small(), great()...) {
		if count, ok := x.count(); !ok || count < 1 {
			t.Errorf("%v may not be", x)
		}
	}
	for _, x := range shapeless() {
		if _, ok := x.count(); ok {
			t.Errorf("%v may be", x)
		}
	}
}
