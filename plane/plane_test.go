package plane_test

import (
	"math"
	"math/big"
	"slices"
	"testing"

	"apiary/api"
	"apiary/plane"
)

const (
	hi  = math.MaxInt64
	lo  = math.MinInt64
	end = 1<<30 - 1
	top = 1 << 30
)

func e(a, b int64) api.E { return api.E{A: a, B: b} }

// mul is a times b, of parts far below 64 bits.
func mul(a, b api.E) api.E {
	return e(a.A*b.A-a.B*b.B, a.A*b.B+a.B*b.A+a.B*b.B)
}

func add(a, b api.E) api.E { return e(a.A+b.A, a.B+b.B) }

// step is (2, 1), 12 - r times with itself.
func step(r int) api.E {
	z := e(1, 0)
	for ; r < 12; r++ {
		z = mul(z, e(2, 1))
	}
	return z
}

// place is where a number of the finest lattice lies.
func place(z api.E) [2]int64 { return [2]int64{52*z.A + 26*z.B, 45 * z.B} }

var units = []api.E{{A: 1}, {B: 1}, {A: -1, B: 1}, {A: -1}, {B: -1}, {A: 1, B: -1}}

// noPoints is pairs of numbers that are no points of the world.
func noPoints() [][2]int64 {
	return [][2]int64{
		{-1, 0}, {0, -1}, {-1, -1}, {top, 0}, {0, top}, {top, top}, {end, top}, {top, end}, {-1, end}, {end, -1},
		{1 << 32, 5}, {5, 1 << 32}, {lo, 0}, {0, lo}, {hi, 0}, {0, hi}, {lo, lo}, {hi, hi}, {lo, hi}, {-1 << 32, 7},
	}
}

// noSizes is numbers that are no resolutions; of some of them 12 - r is one that Beta takes.
func noSizes() []int {
	return []int{-1, 13, -8, -9, 20, 32, 1 << 32, -1 << 32, math.MaxInt, math.MinInt, math.MinInt + 12}
}

// somePoints is points at the ends of the world, on its edges, and spread over it, the same ones each time.
func somePoints() [][2]int64 {
	var l [][2]int64
	ends := []int64{0, 1, 25, 26, 44, 52, 45 * 7, 1<<29 - 1, 1 << 29, end - 45, end - 1, end}
	for _, x := range ends {
		for _, y := range ends {
			l = append(l, [2]int64{x, y})
		}
	}
	s := uint64(3)
	for range 300 {
		s = s*6364136223846793005 + 1442695040888963407
		l = append(l, [2]int64{int64(s >> 34), int64(s>>3) & end})
	}
	return l
}

// 3.1: the points of the world.
func TestOk(t *testing.T) {
	for _, p := range somePoints() {
		if !plane.Ok(p[0], p[1]) {
			t.Error(p)
		}
	}
	for _, p := range noPoints() {
		if plane.Ok(p[0], p[1]) {
			t.Error(p)
		}
	}
}

// 3.1: Axial is 2340 times where a point lies, and zeros of what is no point.
func TestAxial(t *testing.T) {
	for _, p := range somePoints() {
		z, ok := plane.Axial(p[0], p[1])
		if !ok || z != e(45*p[0]-26*p[1], 52*p[1]) || place(z) != [2]int64{2340 * p[0], 2340 * p[1]} {
			t.Error(p, z, ok)
		}
	}
	for _, x := range []struct {
		x, y int64
		want api.E
	}{{52, 0, e(2340, 0)}, {26, 45, e(0, 2340)}, {1, 0, e(45, 0)}, {0, 1, e(-26, 52)}, {0, end, e(-27917287398, 55834574796)}} {
		if z, ok := plane.Axial(x.x, x.y); z != x.want || !ok {
			t.Error(x, z, ok)
		}
	}
	for _, p := range noPoints() {
		if z, ok := plane.Axial(p[0], p[1]); ok || z != e(0, 0) {
			t.Error(p, z, ok)
		}
	}
}

// far is the square of 2340 times how far the centre of z of r is from a point.
func far(p [2]int64, z api.E, r int) *big.Int {
	at := mul(step(r), z)
	a, b := big.NewInt(45*p[0]-26*p[1]-2340*at.A), big.NewInt(52*p[1]-2340*at.B)
	sum := new(big.Int).Add(a, b)
	return sum.Sub(sum.Mul(sum, sum), a.Mul(a, b))
}

// nearest looks through all numbers about what is told, by rising A and then B, so that the first of several is the one that is asked for.
func nearest(p [2]int64, r int, about api.E) api.E {
	var least *big.Int
	best := e(0, 0)
	for a := about.A - 2; a <= about.A+2; a++ {
		for b := about.B - 2; b <= about.B+2; b++ {
			if n := far(p, e(a, b), r); least == nil || n.Cmp(least) < 0 {
				least, best = n, e(a, b)
			}
		}
	}
	return best
}

// 3.1, 3.2: the one number that Near tells of each point and each r is the nearest one.
func TestNear(t *testing.T) {
	for _, p := range somePoints() {
		for r := 0; r <= 12; r++ {
			z, ok := plane.Near(p[0], p[1], r)
			if want := nearest(p, r, z); !ok || z != want {
				t.Fatal(p, r, z, ok, "and is", want)
			}
		}
	}
}

// 3.2: Near of all points of a corner of the world, where many are as near to one centre as to another.
func TestNearAllOfACorner(t *testing.T) {
	for x := int64(0); x <= 110; x++ {
		for y := int64(0); y <= 95; y++ {
			p := [2]int64{x, y}
			for r := 10; r <= 12; r++ {
				z, ok := plane.Near(x, y, r)
				if want := nearest(p, r, z); !ok || z != want {
					t.Fatal(p, r, z, ok, "and is", want)
				}
			}
		}
	}
}

// 3.1: Near, by hand: centres, what is half way between two or three of them, and what is beside that.
func TestNearByHand(t *testing.T) {
	for _, x := range []struct {
		x, y int64
		r    int
		want api.E
	}{
		{0, 0, 12, e(0, 0)},
		{52, 0, 12, e(1, 0)},
		{26, 45, 12, e(0, 1)},
		{26, 0, 12, e(0, 0)},
		{27, 0, 12, e(1, 0)},
		{26, 15, 12, e(0, 0)},
		{26, 16, 12, e(0, 1)},
		{27, 15, 12, e(1, 0)},
		{52, 30, 12, e(0, 1)},
		{52, 29, 12, e(1, 0)},
		{53, 30, 12, e(1, 1)},
		{0, 30, 12, e(-1, 1)},
		{130, 45, 11, e(1, 0)},
		{65, 22, 11, e(0, 0)},
		{65, 23, 11, e(1, 0)},
		{0, 0, 0, e(0, 0)},
	} {
		if z, ok := plane.Near(x.x, x.y, x.r); z != x.want || !ok {
			t.Error(x, z, ok)
		}
	}
}

// 3.1: Near refuses what is no point or no resolution.
func TestNearRefuses(t *testing.T) {
	for _, p := range noPoints() {
		for r := -1; r <= 13; r++ {
			if z, ok := plane.Near(p[0], p[1], r); ok || z != e(0, 0) {
				t.Error(p, r, z, ok)
			}
		}
	}
	for _, r := range noSizes() {
		for _, p := range [][2]int64{{0, 0}, {end, end}, {12345, 67890}} {
			if z, ok := plane.Near(p[0], p[1], r); ok || z != e(0, 0) {
				t.Error(p, r, z, ok)
			}
		}
	}
}

// 3.1: Width is 169 times a power of seven, which is the square of a quarter of the way from a centre to one next to it.
func TestWidth(t *testing.T) {
	want := int64(169)
	for r := 12; r >= 0; r-- {
		if n, ok := plane.Width(r); n != want || !ok {
			t.Error(r, n, ok)
		}
		s := step(r)
		if n := s.A*s.A + s.A*s.B + s.B*s.B; 16*want != 52*52*n {
			t.Error(r, n)
		}
		want *= 7
	}
	for _, r := range noSizes() {
		if n, ok := plane.Width(r); n != 0 || ok {
			t.Error(r, n, ok)
		}
	}
}

// 3.3: every call ends, and none panics, of numbers at all ends.
func TestEveryCallEnds(t *testing.T) {
	numbers := []int64{lo, lo + 1, -1 << 62, -top - 1, -top, -1, 0, 1, end, top, top + 1, 1 << 62, hi - 1, hi}
	sizes := slices.Concat(noSizes(), []int{0, 1, 6, 11, 12})
	for _, a := range numbers {
		for _, b := range numbers {
			plane.Ok(a, b)
			plane.Axial(a, b)
			for _, r := range sizes {
				plane.Near(a, b, r)
				plane.Centre(e(a, b), r)
				plane.Hex(e(a, b), r)
				plane.Width(r)
			}
		}
	}
}
