package poly_test

import (
	"math"
	"math/big"
	"slices"
	"testing"

	"apiary/api"
	"apiary/poly"
)

const (
	// top is the greatest x and y of the world.
	top = 1<<30 - 1
	// far is how far off points are asked of.
	far = 1 << 31
	hi  = math.MaxInt64
	lo  = math.MinInt64
)

// offWorld is numbers that no corner has.
var offWorld = []int64{-1, -2, top + 1, top + 2, far, -far, 1 << 32, 1<<32 + 1, -1 << 32, hi, hi - 1, lo, lo + 1}

type ring = [][2]int64

func square(from, to int64) ring { return ring{{from, from}, {to, from}, {to, to}, {from, to}} }

// times tells a list that is l so many times.
func times[T any](n int, l ...T) []T {
	return slices.Repeat(l, n)
}

// next tells numbers that are spread, the same ones each time.
func next(s *uint64) int64 {
	*s = *s*6364136223846793005 + 1442695040888963407
	return int64(*s >> 33)
}

// some tells rings whose corners are spread over places of each axis: edges cross, lie on each other and are as short as can be.
func some(s *uint64, rings, corners int, places []int64) []ring {
	l := make([]ring, 0, rings)
	for range rings {
		var r ring
		for range 3 + next(s)%int64(corners-2) {
			r = append(r, [2]int64{places[next(s)%int64(len(places))], places[next(s)%int64(len(places))]})
		}
		l = append(l, r)
	}
	return l
}

// small is places close together; ends is ones at both ends of the world.
var (
	small = []int64{0, 1, 2, 3, 5, 8, 9}
	ends  = []int64{0, 1, 2, 3, 1 << 29, 1<<29 + 1, top - 2, top - 1, top}
)

// samples is rings of all kinds, each of which Check takes.
func samples() [][]ring {
	l := [][]ring{
		{square(0, 9)},
		{square(1, 8), square(3, 5)},
		{square(0, 5), square(3, 9)},
		{square(0, 3), square(3, 5), square(0, 3)},
		{times(2, square(1, 8)...)},
		{times(3, square(1, 8)...)},
		{{{0, 0}, {8, 8}, {8, 0}, {0, 8}}},
		{{{4, 4}, {4, 4}, {4, 4}}},
		{{{0, 0}, {9, 6}, {0, 0}}},
		{{{0, 0}, {6, 9}, {2, 3}, {4, 6}}},
		{{{2, 5}, {5, 5}, {8, 5}, {5, 5}}},
		{{{5, 2}, {5, 5}, {5, 8}}},
		{{{0, 4}, {2, 8}, {4, 4}, {6, 8}, {8, 4}, {8, 0}, {6, 4}, {4, 0}, {2, 4}, {0, 0}}},
		{{{0, 0}, {9, 0}, {9, 3}, {6, 3}, {6, 5}, {9, 5}, {9, 9}, {0, 9}, {0, 5}, {3, 5}, {3, 3}, {0, 3}}},
		{square(0, top)},
		{square(0, top), square(1, top-1)},
		{{{0, 0}, {top, top - 1}, {top, top}, {1, 0}}},
		{{{0, top}, {top, 0}, {top, top}}},
		{{{0, 0}, {top, 1}, {0, 2}, {top, 3}}},
		times(20, square(0, 9)),
		times(19, square(0, 9)),
		{times(125, square(0, top)...)},
	}
	s := uint64(9)
	for i := range 60 {
		l = append(l, some(&s, 1+i%4, 3+i%9, small), some(&s, 1+i%4, 3+i%9, ends))
	}
	return append(l, some(&s, 20, 25, small), some(&s, 1, 500, ends))
}

// wrong is rings that Check does not take, with what is wrong with them. Many of them hold (5, 5), but for what is wrong.
func wrong() map[string]struct {
	rings []ring
	err   api.Errno
} {
	type fault = struct {
		rings []ring
		err   api.Errno
	}
	good, short, out := square(0, 9), ring{{0, 0}, {9, 9}}, ring{{0, 0}, {9, 0}, {9, top + 1}}
	return map[string]fault{
		"nil":                            {nil, api.ErrArg},
		"no ring":                        {[]ring{}, api.ErrArg},
		"a nil ring":                     {[]ring{nil}, api.ErrArg},
		"no corner":                      {[]ring{{}}, api.ErrArg},
		"one corner":                     {[]ring{{{5, 5}}}, api.ErrArg},
		"two corners":                    {[]ring{short}, api.ErrArg},
		"two corners behind a ring":      {[]ring{good, short}, api.ErrArg},
		"two corners ahead of a ring":    {[]ring{short, good}, api.ErrArg},
		"no corner in the midst":         {[]ring{good, nil, good, good}, api.ErrArg},
		"21 rings":                       {times(21, good), api.ErrMany},
		"21 rings without corners":       {make([]ring, 21), api.ErrMany},
		"a million rings":                {make([]ring, 1000000), api.ErrMany},
		"501 corners":                    {[]ring{times(501, [2]int64{5, 5})}, api.ErrMany},
		"501 corners that wind":          {[]ring{append(times(125, good...), good[0])}, api.ErrMany},
		"501 corners in all":             {[]ring{times(249, [2]int64{5, 5}), times(249, [2]int64{5, 5}), good[:3]}, api.ErrMany},
		"a million corners":              {[]ring{times(250000, good...)}, api.ErrMany},
		"out of the world":               {[]ring{out}, api.ErrWorld},
		"out of the world behind a ring": {[]ring{good, out}, api.ErrWorld},
		"21 rings, one short":            {append(times(20, good), short), api.ErrMany},
		"21 rings, one out":              {append(times(20, good), out), api.ErrMany},
		"501 corners, one ring short":    {[]ring{short, times(499, [2]int64{5, 5})}, api.ErrMany},
		"501 corners, one out":           {[]ring{append(times(125, good...), out[2])}, api.ErrMany},
		"out, and then short":            {[]ring{out, short}, api.ErrArg},
		"short, and then out":            {[]ring{short, out}, api.ErrArg},
		"short and out":                  {[]ring{{{lo, hi}}}, api.ErrArg},
	}
}

// 9.1: Check takes up to 20 rings, up to 500 corners in all, three a ring, in the world.
func TestCheckTakes(t *testing.T) {
	for i, rings := range samples() {
		if err := poly.Check(rings); err != api.OK {
			t.Error(i, err)
		}
	}
	for i, rings := range [][]ring{
		{square(0, 1)[:3]},
		{square(0, top)},
		times(20, square(0, 9)),
		times(20, times(25, [2]int64{top, 0})),
		{times(500, [2]int64{})},
		{times(497, [2]int64{}), square(0, 9)[:3]},
	} {
		if err := poly.Check(rings); err != api.OK {
			t.Error(i, err)
		}
	}
}

// 9.1: Check tells ErrMany ahead of ErrArg ahead of ErrWorld, wherever the faults stand.
func TestCheckRefuses(t *testing.T) {
	for name, x := range wrong() {
		if err := poly.Check(x.rings); err != x.err {
			t.Error(name, "told", err, "and is", x.err)
		}
	}
	for _, n := range offWorld {
		for at := range 4 {
			for axis := range 2 {
				r := square(0, 9)
				r[at][axis] = n
				for i, rings := range [][]ring{{r}, {square(0, 9), r}, {r, square(0, 9)}} {
					if err := poly.Check(rings); err != api.ErrWorld {
						t.Error(n, at, axis, i, err)
					}
				}
			}
		}
	}
}

// 9.1: of rings that Check does not take On and Inside are false, Box and Area2 noughts.
func TestNothingIsToldOfWrongRings(t *testing.T) {
	for name, x := range wrong() {
		for _, p := range [][2]int64{{5, 5}, {0, 0}, {9, 9}, {4, 0}, {top, top}} {
			if poly.On(x.rings, p[0], p[1]) || poly.Inside(x.rings, p[0], p[1]) {
				t.Error(name, p)
			}
		}
		if least, most := poly.Box(x.rings); least != [2]int64{} || most != [2]int64{} {
			t.Error(name, least, most)
		}
		if len(x.rings) == 1 {
			if n := poly.Area2(x.rings[0]); n != 0 {
				t.Error(name, n)
			}
		}
	}
	for _, n := range offWorld {
		for at := range 4 {
			for axis := range 2 {
				r := square(3, 9)
				r[at][axis] = n
				least, most := poly.Box([]ring{r})
				if poly.Inside([]ring{r}, 6, 6) || poly.On([]ring{r}, 3, 3) || poly.On([]ring{r}, 9, 9) || least != [2]int64{} || most != [2]int64{} || poly.Area2(r) != 0 {
					t.Error(n, at, axis, least, most, poly.Area2(r))
				}
			}
		}
	}
}

// 9.1: Box is the least and the greatest x and y, of all rings.
func TestBox(t *testing.T) {
	for i, rings := range samples() {
		var x, y []int64
		for _, corner := range slices.Concat(rings...) {
			x, y = append(x, corner[0]), append(y, corner[1])
		}
		least, most := poly.Box(rings)
		if least != [2]int64{slices.Min(x), slices.Min(y)} || most != [2]int64{slices.Max(x), slices.Max(y)} {
			t.Error(i, least, most)
		}
	}
	least, most := poly.Box([]ring{{{5, 40}, {6, 41}, {7, 42}}, {{50, 4}, {60, 3}, {70, 2}}})
	if least != [2]int64{5, 2} || most != [2]int64{70, 42} {
		t.Error(least, most)
	}
}

// exactArea is the sum of x1 y2 less x2 y1, modulo 2^64.
func exactArea(r ring) int64 {
	sum := new(big.Int)
	for i, p := range r {
		q := r[(i+1)%len(r)]
		sum.Add(sum, new(big.Int).Mul(big.NewInt(p[0]), big.NewInt(q[1])))
		sum.Sub(sum, new(big.Int).Mul(big.NewInt(q[0]), big.NewInt(p[1])))
	}
	sum.And(sum, new(big.Int).SetUint64(math.MaxUint64))
	return int64(sum.Uint64())
}

// 9.1: Area2 is twice the area with a sign, and wraps.
func TestArea2(t *testing.T) {
	for i, rings := range samples() {
		for j, r := range rings {
			if n := poly.Area2(r); n != exactArea(r) {
				t.Error(i, j, n, "and is", exactArea(r))
			}
		}
	}
	for i, x := range []struct {
		r    ring
		want int64
	}{
		{square(0, 2), 8},
		{ring{{0, 0}, {0, 2}, {2, 2}, {2, 0}}, -8},
		{ring{{7, 1}, {8, 1}, {7, 2}}, 1},
		{ring{{0, 0}, {8, 8}, {8, 0}, {0, 8}}, 0},
		{square(0, top), 2 * top * top},
		{times(4, square(0, top)...), 8 * top * top},
		// Beyond 2^63 it is below 0: 10 times (2^60 less 2^31 and 1) less 2^64.
		{times(5, square(0, top)...), -6<<60 - 10<<31 + 10},
		{times(8, square(0, top)...), -16<<31 + 16},
	} {
		if n := poly.Area2(x.r); n != x.want {
			t.Error(i, n, "and is", x.want)
		}
	}
	// All rings that wind about the world up to 125 times, from each corner on.
	for n := range 125 {
		r := times(n+1, square(0, top)...)
		if area := poly.Area2(r); area != exactArea(r) {
			t.Error(n, area, "and is", exactArea(r))
		}
	}
}

// Rule 3: what is handed in is not changed, nor the spare room behind its lists.
func TestNothingHandedInIsChanged(t *testing.T) {
	for i, rings := range samples() {
		given := make([]ring, 0, len(rings)+3)
		for _, r := range rings {
			room := append(slices.Clone(r), [2]int64{-7, -7}, [2]int64{-8, -8})
			given = append(given, room[:len(r)])
		}
		spare := given[:cap(given)]
		spare[len(rings)] = ring{{-9, -9}}
		poly.Check(given)
		poly.Box(given)
		for _, p := range [][2]int64{{5, 5}, {0, 0}, {3, top}} {
			poly.On(given, p[0], p[1])
			poly.Inside(given, p[0], p[1])
		}
		for j, r := range given {
			poly.Area2(r)
			room := r[:len(r)+2]
			if !slices.Equal(r, rings[j]) || room[len(r)] != [2]int64{-7, -7} || room[len(r)+1] != [2]int64{-8, -8} {
				t.Error(i, j, r)
			}
		}
		if !slices.Equal(spare[len(rings)], ring{{-9, -9}}) || spare[len(rings)+1] != nil {
			t.Error(i, spare)
		}
	}
}
