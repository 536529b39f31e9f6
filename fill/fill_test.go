package fill_test

import (
	"math"
	"slices"
	"strconv"
	"testing"

	"apiary/api"
	"apiary/cell"
	"apiary/eisen"
	"apiary/fill"
	"apiary/ident"
	"apiary/near"
	"apiary/plane"
	"apiary/poly"
)

const (
	lo  = math.MinInt64
	hi  = math.MaxInt64
	top = 1<<30 - 1
	// most is how many cells may touch the box of what is filled.
	most = 20000
)

type (
	point = [2]int64
	ring  = []point
)

// odd is numbers that are no sizes.
var odd = []int{math.MinInt, math.MinInt + 1, -1 << 32, -7, -1, 13, 14, 16, 1 << 32, 3 + 1<<32, math.MaxInt - 1, math.MaxInt}

// calls is all there are: what is refused of one is refused of the others alike.
var calls = []struct {
	name string
	do   func(rings [][][2]int64, r int) ([]uint64, api.Errno)
}{{"Fill", fill.Fill}, {"Border", fill.Border}, {"Packed", fill.Packed}}

func of(r int, a, b int64) api.Cell { return api.Cell{R: r, Z: api.E{A: a, B: b}} }

func word(t *testing.T, c api.Cell) uint64 {
	t.Helper()
	w, err := ident.Of(c)
	if err != api.OK {
		t.Fatal(c, err)
	}
	return w
}

// sorted tells the words of some cells, rising.
func sorted(t *testing.T, l []api.Cell) []uint64 {
	t.Helper()
	var all []uint64
	for _, c := range l {
		all = append(all, word(t, c))
	}
	slices.Sort(all)
	return all
}

// wordsOf tells the words of some numbers of r, rising.
func wordsOf(t *testing.T, r int, numbers ...point) []uint64 {
	t.Helper()
	var l []api.Cell
	for _, n := range numbers {
		l = append(l, of(r, n[0], n[1]))
	}
	return sorted(t, l)
}

func centre(t *testing.T, c api.Cell) point {
	t.Helper()
	x, y, ok := plane.Centre(c.Z, c.R)
	if !ok {
		t.Fatal(c)
	}
	return point{x, y}
}

// width tells about how wide a cell of r is.
func width(r int) int64 {
	n, _ := plane.Width(r)
	return int64(4 * math.Sqrt(float64(n)))
}

// next tells numbers that are spread, the same ones each time.
func next(s *uint64) int64 {
	*s = *s*6364136223846793005 + 1442695040888963407
	return int64(*s >> 33)
}

// square tells the ring round a box.
func square(left, low, right, high int64) ring {
	return ring{{left, low}, {right, low}, {right, high}, {left, high}}
}

// hexagon tells the ring whose six corners are the centres k steps straight off c: it holds what is at most k steps off.
func hexagon(t *testing.T, c api.Cell, k int64) ring {
	t.Helper()
	var l ring
	for way := range 6 {
		u := eisen.Unit(way)
		l = append(l, centre(t, of(c.R, c.Z.A+k*u.A, c.Z.B+k*u.B)))
	}
	return l
}

// numbersAbout goes through all cells of r whose numbers lie among those of a box's corners, and some steps about them.
func numbersAbout(t *testing.T, least, last point, r int, visit func(api.Cell)) {
	t.Helper()
	var as, bs []int64
	for _, p := range square(least[0], least[1], last[0], last[1]) {
		z, ok := plane.Near(p[0], p[1], r)
		if !ok {
			t.Fatal(p, r)
		}
		as, bs = append(as, z.A), append(bs, z.B)
	}
	for a := slices.Min(as) - 3; a <= slices.Max(as)+3; a++ {
		for b := slices.Min(bs) - 3; b <= slices.Max(bs)+3; b++ {
			visit(of(r, a, b))
		}
	}
}

// slow looks at all cells about some rings.
func slow(t *testing.T, rings []ring, r int) []api.Cell {
	t.Helper()
	if err := poly.Check(rings); err != api.OK {
		t.Fatal(err)
	}
	corners := slices.Concat(rings...)
	least, last := corners[0], corners[0]
	for _, p := range corners {
		least = point{min(least[0], p[0]), min(least[1], p[1])}
		last = point{max(last[0], p[0]), max(last[1], p[1])}
	}
	var l []api.Cell
	numbersAbout(t, least, last, r, func(c api.Cell) {
		if p := centre(t, c); poly.Inside(rings, p[0], p[1]) {
			l = append(l, c)
		}
	})
	return l
}

// tells fails if a call does not tell just these words.
func tells(t *testing.T, do func([][][2]int64, int) ([]uint64, api.Errno), rings []ring, r int, want []uint64) {
	t.Helper()
	if l, err := do(rings, r); !slices.Equal(l, want) || err != api.OK {
		t.Errorf("of %.200v at %d told %d, %v and is %d", rings, r, len(l), err, len(want))
	}
}

// someRings tells polygons of some widths of r: at all corners of the world, elsewhere, and from a centre on.
func someRings(t *testing.T, r int) [][]ring {
	t.Helper()
	c, err := cell.Of(1<<29, 1<<29, r)
	if err != api.OK {
		t.Fatal(r, err)
	}
	seed := uint64(r + 1)
	var l [][]ring
	for _, from := range []struct{ at, way point }{
		{point{0, 0}, point{1, 1}}, {point{top, top}, point{-1, -1}}, {point{0, top}, point{1, -1}}, {point{top, 0}, point{-1, 1}},
		{point{123456789, 987654321}, point{1, -1}}, {centre(t, c), point{1, 1}},
	} {
		for _, rings := range someShapes(&seed) {
			l = append(l, laid(rings, from.at, from.way, width(r)))
		}
	}
	return l
}

// laid tells rings of tenths of a width, from a point on, one way along each axis.
func laid(rings []ring, at, way point, width int64) []ring {
	var l []ring
	for _, corners := range rings {
		var one ring
		for _, p := range corners {
			one = append(one, point{at[0] + way[0]*p[0]*width/10, at[1] + way[1]*p[1]*width/10})
		}
		l = append(l, one)
	}
	return l
}

// someShapes tells polygons in tenths of a width.
func someShapes(seed *uint64) [][]ring {
	outer, inner, island := square(0, 0, 120, 110), square(15, 20, 100, 90), square(40, 40, 80, 70)
	twice := slices.Concat(outer, inner)
	slices.Reverse(inner)
	l := [][]ring{
		{{{0, 0}, {83, 11}, {29, 97}}},
		{{{0, 40}, {100, 40}, {20, 100}, {50, 0}, {80, 100}}},
		{{{0, 0}, {100, 0}, {100, 100}, {70, 100}, {70, 30}, {30, 30}, {30, 100}, {0, 100}}},
		{outer, inner}, {outer, inner, island}, {twice}, {outer, outer}, {outer, square(60, 50, 150, 160)},
		{square(0, 0, 30, 150), square(35, 2, 130, 40)},
		{{{0, 0}, {200, 3}, {0, 1}}}, {{{0, 0}, {90, 90}, {0, 0}}}, {{{7, 5}, {7, 5}, {7, 5}}},
	}
	for range 4 {
		var corners ring
		for range 3 + next(seed)%12 {
			corners = append(corners, point{next(seed) % 120, next(seed) % 120})
		}
		l = append(l, []ring{corners})
	}
	return l
}

// 11.1: Fill, by hand. Of 12 (A, B) lies at 52 A + 26 B, 45 B, of 11 (1, 0) at 130, 45, and of 10 at 286, 225. A centre on an edge is inside.
func TestFillByHand(t *testing.T) {
	area, whole := square(0, 0, 104, 90), []point{{0, 0}, {1, 0}, {2, 0}, {0, 1}, {1, 1}, {-1, 2}, {0, 2}, {1, 2}}
	edges := []point{{0, 0}, {1, 0}, {2, 0}, {-1, 2}, {0, 2}, {1, 2}}
	for i, x := range []struct {
		rings []ring
		r     int
		want  []point
	}{
		{[]ring{{{0, 0}, {104, 0}, {0, 90}}}, 12, []point{{0, 0}, {1, 0}, {2, 0}, {0, 1}, {-1, 2}}},
		{[]ring{{{1, 1}, {103, 1}, {1, 89}}}, 12, []point{{0, 1}}},
		{[]ring{{{1, 1}, {2, 1}, {1, 2}}}, 12, nil},
		{[]ring{{{52, 0}, {52, 0}, {52, 0}}}, 12, []point{{1, 0}}},
		{[]ring{{{53, 0}, {53, 0}, {53, 0}}}, 12, nil},
		{[]ring{{{0, 0}, {104, 0}, {0, 0}}}, 12, []point{{0, 0}, {1, 0}, {2, 0}}},
		{[]ring{{{0, 1}, {104, 1}, {50, 1}}}, 12, nil},
		{[]ring{{{1, 0}, {51, 0}, {51, 44}, {1, 44}}}, 12, nil},
		{[]ring{area}, 12, whole},
		{[]ring{{area[2], area[1], area[0], area[3]}}, 12, whole},
		{[]ring{area, square(10, 10, 94, 80)}, 12, edges},
		{[]ring{square(10, 10, 94, 80), area}, 12, edges},
		{[]ring{area, square(26, 10, 78, 80)}, 12, whole},
		{[]ring{area, square(10, 10, 60, 80)}, 12, append([]point{{1, 1}}, edges...)},
		{[]ring{area, square(10, 10, 94, 80), square(70, 40, 80, 50)}, 12, append([]point{{1, 1}}, edges...)},
		{[]ring{area, area}, 12, edges},
		{[]ring{slices.Concat(area, area)}, 12, edges},
		{[]ring{area, area, area}, 12, whole},
		{[]ring{{{0, 0}, {104, 0}, {0, 90}, {104, 90}}}, 12, edges},
		{[]ring{square(129, 44, 131, 46)}, 12, []point{{2, 1}}},
		{[]ring{square(129, 44, 131, 46)}, 11, []point{{1, 0}}},
		{[]ring{square(129, 44, 131, 46)}, 10, nil},
		{[]ring{square(130, 45, 286, 225)}, 11, []point{{1, 0}, {2, 0}, {1, 1}, {2, 1}}},
		{[]ring{square(130, 45, 286, 225)}, 10, []point{{1, 0}}},
		{[]ring{square(0, 0, 5000, 5000)}, 0, []point{{0, 0}}},
	} {
		t.Run(strconv.Itoa(i), func(t *testing.T) {
			tells(t, fill.Fill, x.rings, x.r, wordsOf(t, x.r, x.want...))
		})
	}
}

// 11.1: Fill tells just the cells whose centre is inside, rising, of rings that cross themselves and others, at all sizes.
func TestFillOfAllSizes(t *testing.T) {
	for r := 0; r <= 12; r++ {
		t.Run(strconv.Itoa(r), func(t *testing.T) {
			t.Parallel()
			empty := 0
			all := someRings(t, r)
			for _, rings := range all {
				want := sorted(t, slow(t, rings, r))
				tells(t, fill.Fill, rings, r, want)
				if len(want) == 0 {
					empty++
				}
			}
			if empty > len(all)/3 {
				t.Error(empty)
			}
		})
	}
}

// 11.1: a hexagon whose corners are centres holds all that is so many steps off, its corners and sides too, at all sizes.
func TestFillOfHexagons(t *testing.T) {
	for r := 0; r <= 12; r++ {
		for _, p := range []point{{1 << 29, 1 << 29}, {123456789, 987654321}, {700000000, 100000000}} {
			c, _ := cell.Of(p[0], p[1], r)
			for k := range int64(6) {
				want, err := near.Disk(word(t, c), int(k))
				if err != api.OK {
					t.Fatal(c, err)
				}
				tells(t, fill.Fill, []ring{hexagon(t, c, k)}, r, want)
			}
		}
	}
}

// refused fails if one of the calls does not tell this error alone.
func refused(t *testing.T, rings []ring, r int, want api.Errno) {
	t.Helper()
	for _, x := range calls {
		if l, err := x.do(rings, r); len(l) != 0 || err != want {
			t.Errorf("%s of %.100v at %d told %d, %v and is %v", x.name, rings, r, len(l), err, want)
		}
	}
}

// 11.1: what is wrong with the rings comes ahead of what is wrong with the size, and this ahead of too many cells.
func TestFaults(t *testing.T) {
	good, short, outside := square(10, 10, 900, 900), ring{{5, 5}, {6, 6}}, square(5, 5, top, top+1)
	long, great := slices.Repeat(ring{{1, 1}, {3, 1}, {1, 3}}, 167), square(0, 0, top, top)
	for _, x := range []struct {
		rings []ring
		want  api.Errno
	}{
		{nil, api.ErrArg}, {[]ring{}, api.ErrArg}, {[]ring{nil}, api.ErrArg}, {[]ring{short}, api.ErrArg}, {[]ring{good, short}, api.ErrArg},
		{[]ring{outside, short}, api.ErrArg}, {[]ring{great, nil}, api.ErrArg},
		{[]ring{outside}, api.ErrWorld}, {[]ring{good, outside}, api.ErrWorld}, {[]ring{great, {{-1, 0}, {1, 1}, {2, 2}}}, api.ErrWorld},
		{[]ring{long}, api.ErrMany}, {[]ring{short, outside, long}, api.ErrMany}, {make([]ring, 21), api.ErrMany},
		{append(slices.Repeat([]ring{good}, 20), outside), api.ErrMany}, {[]ring{long[:300], long[:201]}, api.ErrMany},
	} {
		for _, r := range append([]int{0, 5, 12}, odd...) {
			refused(t, x.rings, r, x.want)
		}
	}
	for _, r := range odd {
		for _, rings := range [][]ring{{good}, {great}, {good, great}, {{{7, 7}, {7, 7}, {7, 7}}}} {
			refused(t, rings, r, api.ErrArg)
		}
	}
	// As many rings and corners as there may be are taken.
	for _, rings := range [][]ring{slices.Repeat([]ring{good}, 20), {long[:500]}, {long[:200], long[:300]}} {
		tells(t, fill.Fill, rings, 12, sorted(t, slow(t, rings, 12)))
	}
}

// 11.1: 20,000 cells by the box of the rings are taken, one more is ErrMany, however few are inside. Along a row of centres of 12 each 52 lead into one more cell.
func TestMany(t *testing.T) {
	t.Parallel()
	const row = 52*most - 26
	for _, x := range []struct {
		rings []ring
		want  int
	}{
		{[]ring{{{0, 0}, {row - 1, 0}, {5, 0}}}, most},
		{[]ring{square(0, 0, row-1, 1)}, most},
		{[]ring{square(0, 1, row-1, 14)}, 0},
		{[]ring{square(0, 0, 1, 1), square(row-53, 0, row-1, 1)}, 2},
	} {
		if l, err := fill.Fill(x.rings, 12); len(l) != x.want || err != api.OK || !slices.IsSorted(l) {
			t.Error(x.rings, len(l), err)
		}
		// All that are in one row lie open.
		if l, err := fill.Border(x.rings, 12); len(l) != x.want || err != api.OK || !slices.IsSorted(l) {
			t.Error(x.rings, len(l), err)
		}
	}
	for _, x := range []struct {
		rings []ring
		r     int
	}{
		{[]ring{{{0, 0}, {row, 0}, {5, 0}}}, 12},
		{[]ring{square(0, 1, row, 14)}, 12},
		{[]ring{square(0, 0, 1, 1), square(row-53, 0, row, 1)}, 12},
		{[]ring{{{0, 0}, {top, top}, {top - 1, top}}}, 12},
		{[]ring{{{0, 0}, {top, top}, {top - 1, top}}}, 3},
		{[]ring{{{0, 0}, {1 << 29, 0}, {0, 1 << 29}}}, 12},
		{[]ring{square(0, 0, top, top)}, 0},
		{[]ring{square(5, 5, 6, 6), square(top-1, top-1, top, top)}, 0},
	} {
		refused(t, x.rings, x.r, api.ErrMany)
	}
}
