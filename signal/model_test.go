package signal_test

import (
	"math"
	"math/big"
	"slices"
	"testing"

	"damask/api"
	"damask/signal"
)

var (
	image = api.Kind{Form: api.Image, Depth: 8}
	sound = api.Kind{Form: api.Sound, Depth: 8}
)

// far are numbers far from all that may be.
var far = []int{math.MinInt, math.MinInt + 1, -1 << 62, -1 << 33, -1 << 32, math.MinInt32, -1 << 20, 1 << 21, math.MaxInt32, 1 << 31, 1 << 32, 1<<32 + 1, 1 << 33, 1 << 44, 1 << 62, 1<<62 + 5, math.MaxInt - 1, math.MaxInt}

// kinds are all kinds that may be.
func kinds() []api.Kind {
	var list []api.Kind
	for _, form := range []int{api.Image, api.Sound} {
		for depth := 1; depth <= 16; depth++ {
			list = append(list, api.Kind{Form: form, Depth: depth})
		}
	}
	return list
}

// strange are kinds that may not be.
func strange() []api.Kind {
	var list []api.Kind
	for _, depth := range append([]int{-8, -1, 0, 17, 18, 32, 64, 72, 256}, far...) {
		list = append(list, api.Kind{Form: api.Image, Depth: depth}, api.Kind{Form: api.Sound, Depth: depth})
	}
	for _, form := range append([]int{-2, -1, 2, 3}, far...) {
		list = append(list, api.Kind{Form: form, Depth: 8}, api.Kind{Form: form}, api.Kind{Form: form, Depth: 17})
	}
	return list
}

// samples answers the least sample of a kind, the greatest, and the one at the border.
func samples(k api.Kind) (low, high, border int) {
	if k.Form == api.Image {
		return 0, 1<<k.Depth - 1, 1 << (k.Depth - 1)
	}
	return -1 << (k.Depth - 1), 1<<(k.Depth-1) - 1, 0
}

// extent is what Shape is asked.
type extent struct {
	k                     api.Kind
	planes, width, height int
}

// with answers a signal of the extent with these samples.
func (x extent) with(list []int) api.Signal {
	return api.Signal{Kind: x.k, Planes: x.planes, Width: x.width, Height: x.height, Samples: list}
}

// filled answers a signal of the extent with so many samples, all alike.
func (x extent) filled(count, sample int) api.Signal {
	return x.with(slices.Repeat([]int{sample}, count))
}

// count answers how many samples the extent asks for, by the words of the chapter, on whole numbers without bounds; none, if it may not be.
func (x extent) count() (int, bool) {
	if x.k.Form != 0 && x.k.Form != 1 || x.k.Depth < 1 || x.k.Depth > 16 || x.planes < 1 || x.planes > 4 {
		return 0, false
	}
	if x.k.Form == 0 && (x.width < 1 || x.width > 4096 || x.height < 1 || x.height > 4096) {
		return 0, false
	}
	if x.k.Form == 1 && (x.width < 1 || x.width > 1048576 || x.height != 1) {
		return 0, false
	}
	product := big.NewInt(1)
	for _, side := range []int{x.planes, x.width, x.height} {
		product.Mul(product, big.NewInt(int64(side)))
	}
	if product.Cmp(big.NewInt(1048576)) > 0 {
		return 0, false
	}
	return int(product.Int64()), true
}

// spot is where a sample stands.
type spot struct{ plane, x, y int }

// order answers where the samples stand, in their order.
func (x extent) order() []spot {
	var list []spot
	if x.k.Form == api.Sound {
		for step := range x.width {
			for channel := range x.planes {
				list = append(list, spot{channel, step, 0})
			}
		}
		return list
	}
	for plane := range x.planes {
		for row := range x.height {
			for column := range x.width {
				list = append(list, spot{plane, column, row})
			}
		}
	}
	return list
}

// shapeless are extents that may not be, each for a reason of its own, with those whose product is as small as that of one that may be, wrapped to an int or not.
func shapeless() []extent {
	list := []extent{
		{},
		{image, 0, 1, 1}, {image, 1, 0, 1}, {image, 1, 1, 0}, {image, 0, 0, 0},
		{sound, 0, 1, 1}, {sound, 1, 0, 1}, {sound, 1, 1, 0}, {sound, 0, 0, 0},
		{image, -1, 1, 1}, {image, 1, -1, 1}, {image, 1, 1, -1}, {image, -1, -1, 1}, {image, 1, -1, -1}, {image, -2, 3, -2},
		{sound, -1, 1, 1}, {sound, 1, -1, 1}, {sound, 1, 1, -1}, {sound, -1, -1, 1}, {sound, 1, -1, -1},
		{image, 5, 1, 1}, {sound, 5, 1, 1},
		{image, 1, 4097, 1}, {image, 1, 1, 4097}, {image, 1, 1048576, 1},
		{sound, 1, 1, 2}, {sound, 2, 7, 2}, {sound, 1, 1, 1048576},
		{sound, 1, 1048577, 1}, {sound, 2, 524289, 1}, {sound, 4, 1048576, 1},
		{image, 2, 1024, 1024}, {image, 1, 4096, 257}, {image, 4, 4096, 4096},
		{image, 4, 1<<62 + 5, 1}, {image, 1, 1<<62 + 5, 4}, {image, 1, 4, 1<<62 + 5}, {image, 1, 1 << 32, 1 << 32}, {image, 1, math.MinInt, 2},
		{sound, 4, 1<<62 + 5, 1}, {sound, 2, math.MinInt, 1}, {sound, 2, math.MaxInt, 1},
	}
	for _, k := range strange() {
		list = append(list, extent{k, 1, 1, 1}, extent{k, 2, 3, 1})
	}
	return list
}

// small are all extents of images of up to 4 planes, 4 columns and 5 rows, and of sounds of up to 4 channels and 9 steps.
func small() []extent {
	var list []extent
	for planes := 1; planes <= 4; planes++ {
		for width := 1; width <= 4; width++ {
			for height := 1; height <= 5; height++ {
				list = append(list, extent{image, planes, width, height})
			}
		}
		for width := 1; width <= 9; width++ {
			list = append(list, extent{sound, planes, width, 1})
		}
	}
	return list
}

// great are extents of as many samples as there may be, or nearly so many.
func great() []extent {
	return []extent{
		{image, 1, 4096, 256}, {image, 1, 256, 4096}, {image, 1, 1024, 1024}, {image, 2, 512, 1024}, {image, 3, 341, 1025}, {image, 4, 64, 4096},
		{sound, 1, 1048576, 1}, {sound, 2, 524288, 1}, {sound, 3, 349525, 1}, {sound, 4, 262144, 1},
	}
}

// tuples goes over all rows of so many of the numbers.
func tuples(list []int, count int, do func(chosen []int)) {
	chosen := make([]int, count)
	var choose func(i int)
	choose = func(i int) {
		if i == count {
			do(chosen)
			return
		}
		for _, chosen[i] = range list {
			choose(i + 1)
		}
	}
	choose(0)
}

// roomy answers a copy of a list with spare room behind it, and all of its memory.
func roomy(list []int) (copied, all []int) {
	all = append(slices.Clone(list), -77, -78, -79, -80)
	return all[:len(list)], all
}

// shaped asks Shape, and holds it against the model.
func shaped(t *testing.T, x extent) {
	t.Helper()
	want, ok := x.count()
	f := api.OK
	if !ok {
		f = api.ErrSignal
	}
	if n, e := signal.Shape(x.k, x.planes, x.width, x.height); n != want || e != f {
		t.Errorf("Shape(%v) = %d, %d, not %d, %d", x, n, e, want, f)
	}
}

// checked asks Check of a signal.
func checked(t *testing.T, s api.Signal, want api.Errno) {
	t.Helper()
	if e := signal.Check(s); e != want {
		t.Errorf("Check(%s) = %d, not %d", shown(s), e, want)
	}
}

// made asks New for a signal that may be.
func made(t *testing.T, x extent) api.Signal {
	t.Helper()
	s, e := signal.New(x.k, x.planes, x.width, x.height)
	if e != api.OK {
		t.Fatalf("New(%v): %d", x, e)
	}
	return s
}

// stands asks Index and Where of a place and its sample.
func stands(t *testing.T, s api.Signal, i int, p spot) {
	t.Helper()
	if n, ok := signal.Index(s, p.plane, p.x, p.y); n != i || !ok {
		t.Errorf("Index(%s, %v) = %d, %v, not %d", shown(s), p, n, ok, i)
	}
	if plane, x, y, ok := signal.Where(s, i); (spot{plane, x, y}) != p || !ok {
		t.Errorf("Where(%s, %d) = %d, %d, %d, %v, not %v", shown(s), i, plane, x, y, ok, p)
	}
}

// noIndex asks Index of what isn't there.
func noIndex(t *testing.T, s api.Signal, p spot) {
	t.Helper()
	if i, ok := signal.Index(s, p.plane, p.x, p.y); i != 0 || ok {
		t.Errorf("Index(%s, %v) = %d, %v", shown(s), p, i, ok)
	}
}

// noWhere asks Where of what isn't there.
func noWhere(t *testing.T, s api.Signal, i int) {
	t.Helper()
	if plane, x, y, ok := signal.Where(s, i); plane != 0 || x != 0 || y != 0 || ok {
		t.Errorf("Where(%s, %d) = %d, %d, %d, %v", shown(s), i, plane, x, y, ok)
	}
}
