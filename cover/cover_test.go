package cover_test

import (
	"math"
	"slices"
	"strconv"
	"testing"

	"apiary/api"
	"apiary/cell"
	"apiary/cover"
	"apiary/ident"
	"apiary/plane"
)

// most is how many cells an answer may have.
const most = 20000

// odd is numbers that are no sizes.
var odd = []int{math.MinInt, math.MinInt + 1, -1 << 32, -7, -1, 13, 14, 16, 1 << 32, 3 + 1<<32, math.MaxInt - 1, math.MaxInt}

func word(t *testing.T, c api.Cell) uint64 {
	t.Helper()
	w, err := ident.Of(c)
	if err != api.OK {
		t.Fatal(c, err)
	}
	return w
}

// sorted tells the words of some cells, rising.
func sorted(t *testing.T, l ...api.Cell) []uint64 {
	t.Helper()
	var all []uint64
	for _, c := range l {
		all = append(all, word(t, c))
	}
	slices.Sort(all)
	return all
}

// width tells about how wide a cell of r is.
func width(r int) int64 {
	n, _ := plane.Width(r)
	return int64(4 * math.Sqrt(float64(n)))
}

// intoWorld tells n, or the end of the world that it is beyond.
func intoWorld(n int64) int64 { return max(0, min(n, top)) }

// about goes through all numbers of r that lie among those of a box's corners, and some steps about them.
func about(t *testing.T, least, most point, r int, visit func(api.Cell)) {
	t.Helper()
	var as, bs []int64
	for _, p := range []point{least, {most[0], least[1]}, most, {least[0], most[1]}} {
		z, ok := plane.Near(p[0], p[1], r)
		if !ok {
			t.Fatal(p, r)
		}
		as, bs = append(as, z.A), append(bs, z.B)
	}
	for a := slices.Min(as) - 3; a <= slices.Max(as)+3; a++ {
		for b := slices.Min(bs) - 3; b <= slices.Max(bs)+3; b++ {
			visit(of(r, a, b))
		}
	}
}

// slow looks at all cells about a box.
func slow(t *testing.T, least, most point, r int) (all, inside []uint64) {
	t.Helper()
	var touching, central []api.Cell
	about(t, least, most, r, func(c api.Cell) {
		// By the world there is none that is not, so none is left out for that.
		if !cell.Ok(c) {
			t.Fatal(c)
		}
		if cover.Touches(c, least, most) {
			touching = append(touching, c)
		}
		if p := centre(t, c); least[0] <= p[0] && p[0] <= most[0] && least[1] <= p[1] && p[1] <= most[1] {
			central = append(central, c)
		}
	})
	return sorted(t, touching...), sorted(t, central...)
}

// count tells how many cells touch a box.
func count(t *testing.T, least, most point, r int) int {
	t.Helper()
	n := 0
	about(t, least, most, r, func(c api.Cell) {
		if cover.Touches(c, least, most) {
			n++
		}
	})
	return n
}

// holds fails if Box and Centres do not tell just these words.
func holds(t *testing.T, least, most point, r int, all, inside []uint64) {
	t.Helper()
	if l, err := cover.Box(least, most, r); !slices.Equal(l, all) || err != api.OK {
		t.Fatal("Box", least, most, r, "told", len(l), err, "and is", len(all))
	}
	if l, err := cover.Centres(least, most, r); !slices.Equal(l, inside) || err != api.OK {
		t.Fatal("Centres", least, most, r, "told", len(l), err, "and is", len(inside))
	}
}

// refuses fails if Box and Centres do not tell this error alone.
func refuses(t *testing.T, least, most point, r int, want api.Errno) {
	t.Helper()
	if l, err := cover.Box(least, most, r); len(l) != 0 || err != want {
		t.Error("Box", least, most, r, "told", len(l), err, "and is", want)
	}
	if l, err := cover.Centres(least, most, r); len(l) != 0 || err != want {
		t.Error("Centres", least, most, r, "told", len(l), err, "and is", want)
	}
}

// 10.1: Box and Centres, by hand. Of 12 (A, B) lies at 52 A + 26 B, 45 B, and the corners of its hexagon 26 15, 0 30 and so round from there.
func TestBoxByHand(t *testing.T) {
	o, right, up, upLeft, upRight := of(12, 0, 0), of(12, 1, 0), of(12, 0, 1), of(12, -1, 1), of(12, 1, 1)
	for i, x := range []struct {
		least, most point
		all, inside []api.Cell
	}{
		{point{0, 0}, point{0, 0}, []api.Cell{o}, []api.Cell{o}},
		{point{52, 0}, point{52, 0}, []api.Cell{right}, []api.Cell{right}},
		{point{26, 45}, point{26, 45}, []api.Cell{up}, []api.Cell{up}},
		{point{1, 0}, point{1, 0}, []api.Cell{o}, nil},
		{point{26, 0}, point{26, 0}, []api.Cell{o, right}, nil},
		{point{26, 0}, point{26, 14}, []api.Cell{o, right}, nil},
		{point{26, 0}, point{26, 15}, []api.Cell{o, right, up}, nil},
		{point{26, 15}, point{26, 15}, []api.Cell{o, right, up}, nil},
		{point{26, 16}, point{26, 44}, []api.Cell{up}, nil},
		{point{0, 30}, point{0, 30}, []api.Cell{o, up, upLeft}, nil},
		{point{0, 31}, point{0, 31}, []api.Cell{up, upLeft}, nil},
		{point{0, 0}, point{51, 0}, []api.Cell{o, right}, []api.Cell{o}},
		{point{1, 0}, point{52, 0}, []api.Cell{o, right}, []api.Cell{right}},
		{point{0, 0}, point{52, 0}, []api.Cell{o, right}, []api.Cell{o, right}},
		{point{0, 1}, point{52, 29}, []api.Cell{o, right, up}, nil},
		{point{0, 1}, point{51, 44}, []api.Cell{o, right, up, upLeft}, nil},
		{point{0, 1}, point{52, 44}, []api.Cell{o, right, up, upLeft, upRight}, nil},
		{point{0, 0}, point{52, 45}, []api.Cell{o, right, up, upLeft, upRight}, []api.Cell{o, right, up}},
		{point{0, 0}, point{25, 45}, []api.Cell{o, up, upLeft}, []api.Cell{o}},
		{point{0, 0}, point{26, 29}, []api.Cell{o, right, up}, []api.Cell{o}},
	} {
		t.Run(strconv.Itoa(i), func(t *testing.T) {
			holds(t, x.least, x.most, 12, sorted(t, x.all...), sorted(t, x.inside...))
		})
	}
}

// 10.1: where a centre is all there is of the box, Box and Centres tell that cell alone, at all sizes.
func TestBoxOfOneCentre(t *testing.T) {
	for r := 0; r <= 12; r++ {
		for _, p := range []point{{1 << 28, 1 << 29}, {123456789, 987654321}, {top / 2, top / 2}, {9876543, 13579135}} {
			c, err := cell.Of(p[0], p[1], r)
			at := centre(t, c)
			if err != api.OK || !plane.Ok(at[0], at[1]) {
				t.Fatal(p, r, err, at)
			}
			one := sorted(t, c)
			holds(t, at, at, r, one, one)
			for axis := range 2 {
				for _, off := range []int64{-1, 1} {
					beside := at
					beside[axis] += off
					holds(t, beside, beside, r, one, nil)
				}
			}
		}
	}
}

// someBoxes tells boxes of the world at its corners, by its sides and elsewhere, from points and lines to some widths of r each way.
func someBoxes(r int) [][2]point {
	w := width(r)
	places := []point{{0, 0}, {top, top}, {0, top}, {top, 0}, {w / 3, top / 2}, {top / 2, top - w/2}, {123456789, 987654321}, {1 << 29, 1 << 28}}
	c, _ := cell.Of(1<<29, 1<<29, r)
	x, y, _ := plane.Centre(c.Z, r)
	places = append(places, point{x, y})
	corners, _ := plane.Hex(c.Z, r)
	places = append(places, point{corners[0][0] / 3, corners[0][1] / 3})
	lengths := []int64{0, 1, w / 2, 2*w + 1, 9 * w, 25 * w}
	var l [][2]point
	for i, p := range places {
		for j, m := range lengths {
			for k, n := range lengths {
				low, high := p, point{intoWorld(p[0] + m), intoWorld(p[1] + n)}
				if (i+j+k)%2 == 0 || i == 1 {
					low, high = point{intoWorld(p[0] - m), intoWorld(p[1] - n)}, p
				}
				l = append(l, [2]point{low, high})
			}
		}
	}
	// Longer ones that are narrow, up and across.
	return append(l, [2]point{{5, 7}, {intoWorld(150 * w), 7}}, [2]point{{top, intoWorld(top - 150*w)}, {top, top}}, [2]point{{w, 0}, {w + w/5, intoWorld(99 * w)}})
}

// 10.1: Box tells all Ok cells that touch, and Centres all whose centre is in the box, rising and no other, at all sizes.
func TestBoxOfAllSizes(t *testing.T) {
	for r := 0; r <= 12; r++ {
		t.Run(strconv.Itoa(r), func(t *testing.T) {
			t.Parallel()
			for _, b := range someBoxes(r) {
				all, inside := slow(t, b[0], b[1], r)
				if len(all) == 0 {
					t.Fatal(b)
				}
				holds(t, b[0], b[1], r, all, inside)
			}
		})
	}
}

// 10.1: 20,000 cells are told, one more is ErrMany. Along a row of centres of 12 each 52 lead into one more cell; up a column each 90 into three, two of them at once.
func TestBoxManyOfLines(t *testing.T) {
	const (
		row    = 52*most - 26
		column = 45*13333 - 15
	)
	for _, x := range []struct {
		least, most point
		all, inside int
	}{
		{point{0, 0}, point{row - 1, 0}, most, most},
		{point{0, 15}, point{row - 1, 15}, most + most, 0},
		{point{0, 1}, point{row - 1, 1}, most, 0},
		{point{26, 1}, point{row - 1, 14}, most, 0},
		{point{27, 1}, point{row - 1, 14}, most - 1, 0},
		{point{27, 1}, point{row + 51, 14}, most, 0},
		{point{52, 0}, point{row + 51, 0}, most, most},
		{point{52, 0}, point{row + 52, 0}, most + 1, 0},
		{point{0, 0}, point{row, 0}, most + 1, 0},
		{point{0, 1}, point{row, 1}, most + 1, 0},
		{point{27, 1}, point{row + 52, 14}, most + 1, 0},
		{point{27, 1}, point{row + 52, 1}, most + 1, 0},
		{point{0, 0}, point{0, column - 1}, most - 1, 6667},
		{point{0, 0}, point{0, column}, most + 1, 0},
		{point{0, 0}, point{0, column + 100}, most + 4, 0},
	} {
		if x.all > most {
			refuses(t, x.least, x.most, 12, api.ErrMany)
			continue
		}
		l, err := cover.Box(x.least, x.most, 12)
		inside, errInside := cover.Centres(x.least, x.most, 12)
		if len(l) != x.all || len(inside) != x.inside || err != api.OK || errInside != api.OK {
			t.Error(x, "told", len(l), err, len(inside), errInside)
		}
		if !slices.IsSorted(l) || len(slices.Compact(slices.Clone(l))) != len(l) || !slices.IsSorted(inside) {
			t.Error(x)
		}
	}
}

// 10.1: the last box that has no more than 20,000 cells, and the next one, at several sizes. Centres is refused with Box, though it would have fewer.
func TestBoxManyOfSquares(t *testing.T) {
	for _, x := range []struct {
		r     int
		least point
		wide  int64
	}{{0, point{0, 0}, top}, {2, point{1 << 28, 1 << 29}, 0}, {5, point{top / 3, top / 5}, 0}, {9, point{0, 1 << 29}, 0}, {12, point{31337, 4711}, 0}} {
		t.Run(strconv.Itoa(x.r), func(t *testing.T) {
			t.Parallel()
			if x.wide == 0 {
				x.wide = 130 * width(x.r)
			}
			right := intoWorld(x.least[0] + x.wide)
			// The greatest height that is not too great lies between these.
			low, high := x.least[1]+90*width(x.r), x.least[1]+190*width(x.r)
			for high-low > 1 {
				middle := (low + high) / 2
				if count(t, x.least, point{right, middle}, x.r) > most {
					high = middle
				} else {
					low = middle
				}
			}
			all, inside := slow(t, x.least, point{right, low}, x.r)
			if len(all) < most-300 || len(all) > most || len(inside) == 0 || len(inside) >= len(all) {
				t.Fatal(len(all), len(inside))
			}
			holds(t, x.least, point{right, low}, x.r, all, inside)
			refuses(t, x.least, point{right, high}, x.r, api.ErrMany)
			if more, inside := slow(t, x.least, point{right, high}, x.r); len(more) <= most || len(inside) > most {
				t.Fatal(len(more), len(inside))
			}
		})
	}
}

// 10.1: the errors, in their order: of the size, of the world, of what is turned, of too many.
func TestBoxRefuses(t *testing.T) {
	great := point{top, top}
	for _, r := range odd {
		for _, x := range [][2]point{{{0, 0}, {5, 5}}, {{0, 0}, great}, {{-1, 0}, {5, 5}}, {{5, 5}, {4, 4}}, {{lo, hi}, {hi, lo}}} {
			refuses(t, x[0], x[1], r, api.ErrArg)
		}
	}
	for r := 0; r <= 12; r++ {
		for _, n := range []int64{-1, -2, top + 1, top + 2, far, -far, 1 << 32, 1<<32 + 5, -1 << 32, 1<<62 + 5, hi, hi - 1, lo, lo + 5} {
			for _, x := range [][2]point{{{n, 5}, {5, 5}}, {{5, n}, {5, 5}}, {{5, 5}, {n, 5}}, {{5, 5}, {5, n}}, {{n, n}, {n, n}}, {{n, 0}, great}, {{0, n}, great}, {{0, 0}, {n, top}}, {{0, 0}, {top, n}}, {{9, n}, {5, 5}}, {{9, 9}, {n, 5}}, {great, {0, n}}} {
				refuses(t, x[0], x[1], r, api.ErrWorld)
			}
		}
		for _, x := range [][2]point{{{1, 0}, {0, 0}}, {{0, 1}, {0, 0}}, {{6, 5}, {5, 9}}, {{5, 6}, {9, 5}}, {{9, 9}, {5, 5}}, {great, {0, 0}}, {great, {top, top - 1}}, {great, {top - 1, top}}, {{top, 0}, {0, top}}, {{0, top}, {top, 0}}} {
			refuses(t, x[0], x[1], r, api.ErrArg)
		}
		refuses(t, point{0, 0}, great, r, api.ErrMany)
	}
}

// 10.2: the cell of each point of a box is among those of Box, though it may be as near to another one.
func TestBoxHasEachPoint(t *testing.T) {
	for r := 9; r <= 12; r++ {
		for _, least := range []point{{0, 0}, {top - 90, top - 120}, {0, top - 120}, {top - 90, 0}, {1 << 20, 1<<20 + 7}} {
			most := point{least[0] + 90, least[1] + 120}
			l, err := cover.Box(least, most, r)
			if err != api.OK {
				t.Fatal(least, r, err)
			}
			is := map[api.Cell]int{}
			for _, w := range l {
				c, _ := ident.Cell(w)
				is[c]++
			}
			for x := least[0]; x <= most[0]; x++ {
				for y := least[1]; y <= most[1]; y++ {
					if c, err := cell.Of(x, y, r); is[c] != 1 || err != api.OK {
						t.Fatal(x, y, c, err)
					}
				}
			}
		}
	}
}

// 10.2: at all sizes, of points at the corners and borders of boxes and inside of them.
func TestBoxHasPointsOfAllSizes(t *testing.T) {
	s := uint64(20)
	for r := 0; r <= 12; r++ {
		for _, b := range someBoxes(r) {
			l, err := cover.Box(b[0], b[1], r)
			if err != api.OK {
				t.Fatal(b, r, err)
			}
			points := []point{b[0], b[1], {b[0][0], b[1][1]}, {b[1][0], b[0][1]}}
			for range 12 {
				x, y := b[0][0]+next(&s)%(b[1][0]-b[0][0]+1), b[0][1]+next(&s)%(b[1][1]-b[0][1]+1)
				points = append(points, point{x, y}, point{x, b[0][1]}, point{x, b[1][1]}, point{b[0][0], y}, point{b[1][0], y})
			}
			for _, p := range points {
				c, _ := cell.Of(p[0], p[1], r)
				if _, is := slices.BinarySearch(l, word(t, c)); !is {
					t.Fatal(b, p, c)
				}
			}
		}
	}
}

// Rule 3: what is answered is new memory each time, its spare room too.
func TestAnswersAreNew(t *testing.T) {
	for r := 0; r <= 12; r++ {
		low, high := point{top / 3, top / 4}, point{top/3 + 5*width(r), top/4 + 3*width(r)}
		all, inside := slow(t, low, high, r)
		for _, call := range []func(lo, hi [2]int64, r int) ([]uint64, api.Errno){cover.Box, cover.Centres} {
			l, _ := call(low, high, r)
			l = l[:cap(l)]
			for i := range l {
				l[i] = 7
			}
			holds(t, low, high, r, all, inside)
		}
	}
}

// 10.3: a call that went on, or panicked, would end the test: the ends of all there is, with each other, and the greatest boxes of all sizes.
func TestEveryCallEnds(t *testing.T) {
	numbers := []int64{lo, -far, -1, 0, top, top + 1, hi}
	for _, r := range []int{math.MinInt, -1, 0, 6, 12, 13, math.MaxInt} {
		t.Run(strconv.Itoa(r), func(t *testing.T) {
			t.Parallel()
			for i := range len(numbers) * len(numbers) * len(numbers) * len(numbers) {
				var n [4]int64
				for at := range n {
					n[at] = numbers[i%len(numbers)]
					i /= len(numbers)
				}
				least, most := point{n[0], n[1]}, point{n[2], n[3]}
				l, err := cover.Box(least, most, r)
				inside, errInside := cover.Centres(least, most, r)
				if err != errInside || err != api.OK && len(l)+len(inside) > 0 || err == api.OK && len(l) == 0 {
					t.Fatal(least, most, r, err, errInside)
				}
			}
		})
	}
	for r := 0; r <= 12; r++ {
		for _, x := range [][2]point{{{0, 5}, {top, 5}}, {{7, 0}, {7, top}}, {{top, 0}, {top, top}}, {{0, top}, {top, top}}} {
			l, err := cover.Box(x[0], x[1], r)
			if r <= 3 && (err != api.OK || len(l) < 100) || r > 5 && err != api.ErrMany {
				t.Error(x, r, len(l), err)
			}
		}
	}
}
