package fill_test

import (
	"slices"
	"strconv"
	"testing"

	"apiary/api"
	"apiary/fill"
)

// each tells what a call tells of each of some rings alone, rising.
func each(t *testing.T, do func([][][2]int64, int) ([]uint64, api.Errno), rings []ring, r int) []uint64 {
	t.Helper()
	var all []uint64
	for _, one := range rings {
		l, err := do([]ring{one}, r)
		if err != api.OK {
			t.Fatal(one, err)
		}
		all = append(all, l...)
	}
	slices.Sort(all)
	return all
}

// apart tells up to 20 rings of any shape, of which each lies in a field of its own: fields are 6 widths wide, and what is between them is as wide as gap asks.
func apart(seed *uint64, at point, width, gap int64) []ring {
	var l []ring
	for i := range int64(1 + next(seed)%20) {
		corners := ring{}
		for range 3 + next(seed)%8 {
			corners = append(corners, point{
				at[0] + (i%5)*(6*width+gap) + next(seed)%(6*width),
				at[1] + (i/5)*(6*width+gap) + next(seed)%(6*width),
			})
		}
		l = append(l, corners)
	}
	return l
}

// 11.2: of rings that share nothing there is filled what is filled of each, and no cell of two.
func TestRingsThatShareNothing(t *testing.T) {
	for r := 0; r <= 12; r++ {
		t.Run(strconv.Itoa(r), func(t *testing.T) {
			t.Parallel()
			w, seed := width(r), uint64(r+1)
			for i, gap := range []int64{1, 1, w / 3, w, 1} {
				at := []point{{0, 0}, {123456789, 456789123}, {1 << 29, 5}, {77, 1 << 29}, {top - 36*w, top - 36*w}}[i]
				rings := apart(&seed, at, w, gap)
				want := each(t, fill.Fill, rings, r)
				if len(slices.Compact(slices.Clone(want))) != len(want) {
					t.Error(r, i, "one cell of two rings")
				}
				tells(t, fill.Fill, rings, r, want)
				slices.Reverse(rings)
				tells(t, fill.Fill, rings, r, want)
			}
		})
	}
}

// 11.2: rings may share nothing and still lie in one another's box.
func TestRingsThatShareABox(t *testing.T) {
	for r := 0; r <= 12; r++ {
		w := width(r)
		at := point{1 << 29, 1 << 28}
		low := ring{{0, 0}, {100, 0}, {0, 100}}
		high := ring{{101, 3}, {101, 101}, {3, 101}}
		hook := ring{{110, 0}, {200, 0}, {200, 100}, {110, 100}, {110, 80}, {180, 80}, {180, 20}, {110, 20}}
		tongue := square(120, 30, 170, 70)
		rings := laid([]ring{low, high, hook, tongue}, at, point{1, 1}, w)
		want := each(t, fill.Fill, rings, r)
		if len(want) < 180 {
			t.Error(r, len(want))
		}
		tells(t, fill.Fill, rings, r, want)
	}
}

// 11.1 and 11.2: between rings that share nothing, but have no centre between them, there is no border.
func TestBorderBetweenRings(t *testing.T) {
	left, right, both := square(0, 0, 100, 400), square(101, 0, 400, 400), square(0, 0, 400, 400)
	border, err := fill.Border([]ring{both}, 12)
	if err != api.OK {
		t.Fatal(err)
	}
	tells(t, fill.Border, []ring{left, right}, 12, border)
	if alone := each(t, fill.Border, []ring{left, right}, 12); len(alone) <= len(border) {
		t.Error(len(alone), len(border))
	}
	// With a row of centres between them each has its own.
	right = square(157, 0, 400, 400)
	tells(t, fill.Border, []ring{left, right}, 12, each(t, fill.Border, []ring{left, right}, 12))
}

// 11.3: every call ends, and none panics, of rings, corners and sizes of all kinds.
func TestEveryCallEnds(t *testing.T) {
	numbers := []int64{lo, lo + 1, -1 << 32, -1 << 31, -1, 0, 1, 1 << 29, top, top + 1, 1 << 31, 1 << 32, hi - 1, hi}
	some := []ring{nil, {}, {{0, 0}}, {{top, top}, {top, top}}, make(ring, 500), make(ring, 501), make(ring, 1<<20), {{0, 0}, {top, 0}, {top, top}}}
	for i, a := range numbers {
		for j, b := range numbers {
			c := numbers[(i+3*j+1)%len(numbers)]
			some = append(some, ring{{a, b}, {b, a}, {a, a}}, ring{{a, b}, {c, a}, {b, c}, {a, c}})
		}
	}
	for _, x := range calls {
		t.Run(x.name, func(t *testing.T) {
			t.Parallel()
			for _, r := range append([]int{0, 12}, odd...) {
				x.do(nil, r)
				x.do(make([]ring, 1<<20), r)
				x.do(slices.Repeat([]ring{{{0, 0}, {top, 0}, {top, top}}}, 20), r)
				for i, one := range some {
					x.do([]ring{one}, r)
					x.do([]ring{one, some[(i*7+1)%len(some)]}, r)
				}
			}
		})
	}
}

// 11.3: what is handed in is not changed, nor the spare room behind it.
func TestNothingIsChanged(t *testing.T) {
	corners := append(square(10, 10, 2000, 2000), point{1, 2}, point{3, 4})
	rings := []ring{corners[:4], square(300, 300, 700, 700), {{5, 6}}}
	kept, keptRings := slices.Clone(corners), slices.Clone(rings)
	for i := range keptRings {
		keptRings[i] = slices.Clone(rings[i])
	}
	for _, x := range calls {
		if l, err := x.do(rings[:2], 11); len(l) == 0 || err != api.OK {
			t.Error(x.name, len(l), err)
		}
		if !slices.Equal(corners, kept) || !slices.EqualFunc(rings, keptRings, slices.Equal[ring]) {
			t.Error(x.name, corners, rings)
		}
	}
}

// 11.3: what is answered is a list of its own each time, its spare room too.
func TestAnswersAreNew(t *testing.T) {
	rings := []ring{square(0, 0, 3000, 3000)}
	for _, x := range calls {
		first, _ := x.do(rings, 12)
		kept := slices.Clone(first)
		second, _ := x.do(rings, 12)
		for i := range first[:cap(first)] {
			first[:cap(first)][i] = 7
		}
		if !slices.Equal(second, kept) {
			t.Error(x.name, "shares")
		}
		tells(t, x.do, rings, 12, kept)
	}
}
