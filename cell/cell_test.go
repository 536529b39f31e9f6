package cell_test

import (
	"math"
	"testing"

	"apiary/api"
	"apiary/cell"
	"apiary/plane"
)

const (
	hi  = math.MaxInt64
	lo  = math.MinInt64
	end = 1<<30 - 1
	top = 1 << 30
)

func e(a, b int64) api.E { return api.E{A: a, B: b} }

func of(r int, a, b int64) api.Cell { return api.Cell{R: r, Z: e(a, b)} }

func add(a, b api.E) api.E { return e(a.A+b.A, a.B+b.B) }

// beta is (2, 1) times a number whose parts are far below 64 bits.
func beta(z api.E) api.E { return e(2*z.A-z.B, z.A+3*z.B) }

// parts is what a child's number may have beside Beta times its parent's, in the order of digits.
var parts = []api.E{{}, {A: 1}, {B: 1}, {A: -1, B: 1}, {A: -1}, {B: -1}, {A: 1, B: -1}}

// down is the child of z of a digit.
func down(z api.E, digit int) api.E { return add(beta(z), parts[digit]) }

// up looks through all numbers about a seventh of z, times the mirrored (2, 1), for what z is a child of, and tells how many ways there are.
func up(z api.E) (parent api.E, digit, ways int) {
	a, b := (3*z.A+z.B)/7, (2*z.B-z.A)/7
	for p := a - 2; p <= a+2; p++ {
		for q := b - 2; q <= b+2; q++ {
			for k := range parts {
				if down(e(p, q), k) == z {
					parent, digit = e(p, q), k
					ways++
				}
			}
		}
	}
	return parent, digit, ways
}

// isOk is what 4.1 says of Ok, by up.
func isOk(c api.Cell) bool {
	if c.R < 0 || c.R > 12 || c.Z.A < -top || c.Z.A > top || c.Z.B < -top || c.Z.B > top {
		return false
	}
	for z := c.Z; ; c.R-- {
		if c.R == 0 {
			return -512 <= z.A && z.A <= 511 && -512 <= z.B && z.B <= 511
		}
		z, _, _ = up(z)
	}
}

// line is a base, and each of the twelve below it, by digits.
type line struct {
	cells  [13]api.Cell
	digits [13]int
}

func lineOf(base api.E, digit func(r int) int) line {
	var l line
	l.cells[0] = api.Cell{Z: base}
	for r := 1; r <= 12; r++ {
		l.digits[r] = digit(r)
		l.cells[r] = api.Cell{R: r, Z: down(l.cells[r-1].Z, l.digits[r])}
	}
	return l
}

// linesOf is lines of one base: of one digit again and again, and of digits that are spread, the same ones each time.
func linesOf(base api.E) []line {
	var l []line
	for k := range parts {
		l = append(l, lineOf(base, func(int) int { return k }))
	}
	s := uint64(base.A*1024 + base.B)
	for range 3 {
		l = append(l, lineOf(base, func(int) int {
			s = s*6364136223846793005 + 1442695040888963407
			return int(s>>33) % 7
		}))
	}
	return l
}

// someLines is lines of bases at the ends and between.
func someLines() []line {
	var l []line
	for _, a := range []int64{-512, -511, -77, -1, 0, 1, 5, 300, 510, 511} {
		for _, b := range []int64{-512, -200, -1, 0, 2, 99, 511} {
			l = append(l, linesOf(e(a, b))...)
		}
	}
	return l
}

// noCells is what is no cell: of no size, with parts too great, or of no base.
func noCells() []api.Cell {
	var l []api.Cell
	for _, r := range []int{-1, 13, -13, 255, 256, 1 << 32, math.MaxInt, math.MinInt} {
		l = append(l, of(r, 0, 0), of(r, 1, -1), of(r, top, 0), of(r, lo, hi))
	}
	for r := 0; r <= 12; r++ {
		for _, n := range []int64{top, -top, top + 1, -top - 1, 1 << 32, -1 << 40, lo, lo + 1, hi} {
			l = append(l, of(r, n, 0), of(r, 0, n), of(r, n, n), of(r, n, -n), of(r, n, 1))
		}
	}
	for _, base := range []api.E{e(512, 0), e(0, 512), e(-513, 0), e(0, -513), e(512, 511), e(511, 512), e(-512, -513), e(-513, 511), e(600, -600), e(1024, 0), e(-1024, 0)} {
		for _, x := range linesOf(base) {
			l = append(l, x.cells[:]...)
		}
	}
	return l
}

// 4.1: which cells may be.
func TestOk(t *testing.T) {
	for _, l := range someLines() {
		for _, c := range l.cells {
			if !cell.Ok(c) {
				t.Error(c)
			}
		}
	}
	for _, c := range noCells() {
		if cell.Ok(c) {
			t.Error(c)
		}
	}
	for _, x := range []struct {
		c    api.Cell
		want bool
	}{
		{of(0, 511, 511), true}, {of(0, 511, -512), true}, {of(0, -512, -512), true}, {of(0, -512, 511), true},
		{of(0, 512, 511), false}, {of(0, 511, 512), false}, {of(0, -513, 0), false}, {of(0, 0, -513), false},
		{of(1, 511, 2044), true}, {of(1, 511, 2045), true}, {of(1, 510, 2045), true}, {of(1, 512, 2044), true}, {of(1, 510, 2046), false}, {of(1, 513, 2044), false},
		{of(12, 0, 0), true}, {of(13, 0, 0), false}, {of(-1, 0, 0), false},
	} {
		if cell.Ok(x.c) != x.want {
			t.Error(x)
		}
	}
}

// 4.1: which cells may be, along the edges of what may: some lines out from 0, at each size.
func TestOkAtTheEdge(t *testing.T) {
	reach := int64(900)
	for r := 0; r <= 12; r++ {
		found := 0
		for _, way := range []api.E{e(1, 0), e(0, 1), e(1, 1), e(-1, 2), e(-1, 0), e(-3, 1), e(0, -1), e(2, -1), e(1, -1)} {
			ahead := true
			for n := int64(0); n <= 2*reach; n += 1 + reach/777 {
				c := of(r, n*way.A, n*way.B)
				want := isOk(c)
				if cell.Ok(c) != want {
					t.Error(c, "and is", want)
				}
				if want != ahead {
					found++
				}
				ahead = want
			}
		}
		if found < 9 {
			t.Error(r, "edges found:", found)
		}
		reach = reach * 8 / 3
	}
}

// somePoints is points at the ends of the world, on its edges, and spread over it, the same ones each time.
func somePoints() [][2]int64 {
	var l [][2]int64
	ends := []int64{0, 1, 26, 45, 52, 1<<29 - 1, 1 << 29, end - 45, end - 1, end}
	for _, x := range ends {
		for _, y := range ends {
			l = append(l, [2]int64{x, y})
		}
	}
	s := uint64(4)
	for range 1000 {
		s = s*6364136223846793005 + 1442695040888963407
		l = append(l, [2]int64{int64(s >> 34), int64(s>>3) & end})
	}
	return l
}

// 4.1: the cell of a point of each size is the one whose centre is nearest, and may be.
func TestOf(t *testing.T) {
	for _, p := range somePoints() {
		for r := 0; r <= 12; r++ {
			z, _ := plane.Near(p[0], p[1], r)
			if c, err := cell.Of(p[0], p[1], r); c != (api.Cell{R: r, Z: z}) || err != api.OK || !cell.Ok(c) {
				t.Error(p, r, c, err)
			}
		}
	}
	for _, x := range []struct {
		x, y int64
		want api.Cell
	}{
		{0, 0, of(12, 0, 0)}, {52, 0, of(12, 1, 0)}, {26, 45, of(12, 0, 1)}, {27, 15, of(12, 1, 0)}, {0, 30, of(12, -1, 1)},
		{130, 45, of(11, 1, 0)}, {26, 135, of(11, 0, 1)}, {65, 23, of(11, 1, 0)}, {65, 22, of(11, 0, 0)}, {0, 0, of(0, 0, 0)},
	} {
		if c, err := cell.Of(x.x, x.y, x.want.R); c != x.want || err != api.OK {
			t.Error(x, c, err)
		}
	}
}

// 4.1: Of refuses what is no point, and then what is no size.
func TestOfRefuses(t *testing.T) {
	refuse := func(x, y int64, r int, want api.Errno) {
		t.Helper()
		if c, err := cell.Of(x, y, r); c != (api.Cell{}) || err != want {
			t.Error(x, y, r, c, err)
		}
	}
	for _, p := range [][2]int64{{-1, 0}, {0, -1}, {top, 0}, {0, top}, {end, top}, {lo, hi}, {hi, 5}, {5, lo}, {1 << 32, 0}} {
		for r := -1; r <= 13; r++ {
			refuse(p[0], p[1], r, api.ErrWorld)
		}
		refuse(p[0], p[1], math.MinInt, api.ErrWorld)
	}
	for _, r := range []int{-1, 13, 20, -8, 256, 1 << 32, math.MaxInt, math.MinInt} {
		refuse(0, 0, r, api.ErrArg)
		refuse(end, end, r, api.ErrArg)
		refuse(12345, 67890, r, api.ErrArg)
	}
}

// 4.3: every call ends, and none panics, of cells and numbers at all ends.
func TestEveryCallEnds(t *testing.T) {
	numbers := []int64{lo, lo + 1, -1 << 62, -top - 1, -top, -513, -1, 0, 1, 511, 512, end, top, top + 1, 1 << 62, hi - 1, hi}
	sizes := []int{math.MinInt, math.MinInt + 1, -1 << 40, -1, 0, 1, 6, 11, 12, 13, 1 << 40, math.MaxInt - 1, math.MaxInt}
	for _, a := range numbers {
		for _, b := range numbers {
			for _, r := range sizes {
				c := of(r, a, b)
				cell.Ok(c)
				cell.Of(a, b, r)
				cell.Parent(c)
				cell.Children(c)
				cell.Digit(c)
				cell.Base(c)
				for _, s := range sizes {
					cell.Up(c, s)
					cell.Within(c, of(s, a, b))
					cell.Within(c, of(s, b, a))
				}
			}
		}
	}
}
