package cover_test

import (
	"math"
	"math/big"
	"testing"

	"apiary/api"
	"apiary/cell"
	"apiary/cover"
	"apiary/eisen"
	"apiary/plane"
)

const (
	// top is the greatest x and y of the world.
	top = 1<<30 - 1
	// far is how far off boxes are asked of.
	far = 1 << 31
	hi  = math.MaxInt64
	lo  = math.MinInt64
)

type point = [2]int64

func of(r int, a, b int64) api.Cell { return api.Cell{R: r, Z: api.E{A: a, B: b}} }

// next tells numbers that are spread, the same ones each time.
func next(s *uint64) int64 {
	*s = *s*6364136223846793005 + 1442695040888963407
	return int64(*s >> 33)
}

// centre tells where the centre of an Ok cell lies.
func centre(t *testing.T, c api.Cell) point {
	t.Helper()
	x, y, ok := plane.Centre(c.Z, c.R)
	if !ok {
		t.Fatal(c)
	}
	return point{x, y}
}

// beside tells the six cells that are next to c, be they Ok or not.
func beside(c api.Cell) []api.Cell {
	var l []api.Cell
	for k := range 6 {
		z, _ := eisen.Add(c.Z, eisen.Unit(k))
		l = append(l, api.Cell{R: c.R, Z: z})
	}
	return l
}

// The square of how far a point is off is told as eisen.Norm does, many times: 675 times the square of x and 676 times that of y, since 1 and h of the finest size lie 52 0 and 26 45 off.
const (
	ofX = 675
	ofY = 676
)

// exact is a point of any numbers.
type exact [2]*big.Rat

func rat(n int64) *big.Rat { return new(big.Rat).SetInt64(n) }

// border is the line of all points that are as far from one centre as from another one: p with a x and b y of c. Of less they are nearer to the one.
type border struct{ a, b, c *big.Rat }

func between(one, other point) border {
	square := func(n, times int64) *big.Rat { return new(big.Rat).Mul(rat(times*n), rat(n)) }
	c := new(big.Rat).Sub(square(other[0], ofX), square(one[0], ofX))
	c.Add(c, new(big.Rat).Sub(square(other[1], ofY), square(one[1], ofY)))
	return border{rat(2 * ofX * (other[0] - one[0])), rat(2 * ofY * (other[1] - one[1])), c}
}

// over tells, with a sign, by how much p is beyond the border.
func (l border) over(p exact) *big.Rat {
	n := new(big.Rat).Mul(l.a, p[0])
	n.Add(n, new(big.Rat).Mul(l.b, p[1]))
	return n.Sub(n, l.c)
}

// cut tells what of something without a dent is not beyond a border.
func cut(ring []exact, l border) []exact {
	var kept []exact
	for i, p := range ring {
		q := ring[(i+1)%len(ring)]
		f, g := l.over(p), l.over(q)
		if f.Sign() <= 0 {
			kept = append(kept, p)
		}
		if f.Sign()*g.Sign() < 0 {
			part := new(big.Rat).Quo(f, new(big.Rat).Sub(f, g))
			var at exact
			for axis := range at {
				at[axis] = new(big.Rat).Sub(q[axis], p[axis])
				at[axis].Add(p[axis], at[axis].Mul(at[axis], part))
			}
			kept = append(kept, at)
		}
	}
	return kept
}

// isNear tells if a box may be asked of.
func isNear(least, most point) bool {
	for _, n := range []int64{least[0], least[1], most[0], most[1]} {
		if n < -far || n > far {
			return false
		}
	}
	return true
}

// touches cuts off the box what is nearer to a neighbour of an Ok cell, and tells if anything is left.
func touches(t *testing.T, c api.Cell, least, most point) bool {
	t.Helper()
	if !isNear(least, most) || most[0] < least[0] || most[1] < least[1] {
		return false
	}
	var ring []exact
	for _, p := range []point{least, {most[0], least[1]}, most, {least[0], most[1]}} {
		ring = append(ring, exact{rat(p[0]), rat(p[1])})
	}
	for _, other := range beside(c) {
		ring = cut(ring, between(centre(t, c), centre(t, other)))
	}
	return len(ring) > 0
}

func agree(t *testing.T, c api.Cell, least, most point) {
	t.Helper()
	if want := touches(t, c, least, most); cover.Touches(c, least, most) != want {
		t.Fatal(c, least, most, "touches is", want)
	}
}

// 10.1: Touches, by hand. The hexagon of 12, (0, 0) has its corners at 26 15, 0 30 and so round; that of 11, (0, 0) at 52 60, -26 75, -78 15 and so round.
func TestTouchesByHand(t *testing.T) {
	for i, x := range []struct {
		r           int
		least, most point
		want        bool
	}{
		{12, point{0, 0}, point{0, 0}, true},
		{12, point{26, 15}, point{26, 15}, true},
		{12, point{26, 16}, point{26, 16}, false},
		{12, point{27, 15}, point{27, 15}, false},
		{12, point{0, 30}, point{0, 99}, true},
		{12, point{0, 31}, point{0, 99}, false},
		{12, point{1, 30}, point{99, 99}, false},
		{12, point{-99, -99}, point{-1, -30}, false},
		{12, point{26, -15}, point{99, -15}, true},
		{12, point{26, -99}, point{99, -15}, true},
		{12, point{26, -99}, point{99, -16}, false},
		{12, point{13, 22}, point{99, 99}, true},
		{12, point{13, 23}, point{99, 99}, false},
		{12, point{-99, 23}, point{99, 23}, true},
		{12, point{1, -99}, point{1, 99}, true},
		{12, point{-27, -31}, point{27, 31}, true},
		{12, point{-5, -5}, point{5, 5}, true},
		{12, point{-far, -far}, point{far, far}, true},
		{12, point{-far, -far}, point{-26, far}, true},
		{12, point{-far, -far}, point{-27, far}, false},
		{12, point{-far, -far}, point{far, -30}, true},
		{12, point{-far, -far}, point{far, -31}, false},
		{11, point{52, 60}, point{52, 60}, true},
		{11, point{52, 61}, point{52, 61}, false},
		{11, point{-26, 75}, point{-26, 75}, true},
		{11, point{-25, 75}, point{-25, 75}, false},
		{11, point{-78, 15}, point{-78, 15}, true},
		{11, point{78, -15}, point{far, -15}, true},
		{11, point{53, 60}, point{far, far}, false},
		{11, point{-far, 16}, point{-78, far}, false},
	} {
		if got := cover.Touches(of(x.r, 0, 0), x.least, x.most); got != x.want {
			t.Error(i, x, got)
		}
	}
}

// 10.1: each point about a cell touches it, if no other centre is nearer.
func TestTouchesPoints(t *testing.T) {
	for _, c := range []api.Cell{of(12, 0, 0), of(12, -30, 44), of(11, 0, 0), of(11, 7, -2), of(10, 1, 1)} {
		middle := centre(t, c)
		var others []point
		for _, other := range beside(c) {
			others = append(others, centre(t, other))
		}
		away := func(p, q point) int64 {
			x, y := p[0]-q[0], p[1]-q[1]
			return ofX*x*x + ofY*y*y
		}
		long := int64([]int{240, 90, 35}[c.R-10])
		for x := middle[0] - long; x <= middle[0]+long; x++ {
			for y := middle[1] - long; y <= middle[1]+long; y++ {
				p, want := point{x, y}, true
				for _, other := range others {
					want = want && away(p, middle) <= away(p, other)
				}
				if cover.Touches(c, p, p) != want {
					t.Fatal(c, p, "touches is", want)
				}
			}
		}
	}
}

// someCells is cells of all sizes: about 0, in the world, and at the rim of what is Ok.
func someCells(t *testing.T) []api.Cell {
	t.Helper()
	var l []api.Cell
	add := func(x, y int64, r int) {
		c, err := cell.Of(x, y, r)
		if err != api.OK {
			t.Fatal(x, y, r, err)
		}
		l = append(l, c)
	}
	rims := []api.Cell{of(0, -512, -512), of(0, 511, 511), of(0, -512, 511), of(0, 511, -512), of(0, 200, -300), of(0, -350, 90)}
	s := uint64(4)
	for r := 0; r <= 12; r++ {
		l = append(l, of(r, 0, 0), of(r, 1, 0), of(r, 3, -5))
		add(top, top, r)
		add(0, top, r)
		add(123456789, 987654321, r)
		l = append(l, rims...)
		for i, rim := range rims {
			if children, err := cell.Children(rim); err == api.OK {
				rims[i] = children[next(&s)%7]
			}
		}
	}
	return l
}

// someBox tells a box with one corner close to an edge of a cell, which goes from there any way, some or no way, or to the ends.
func someBox(t *testing.T, c api.Cell, s *uint64) (least, most point) {
	t.Helper()
	corners, ok := plane.Hex(c.Z, c.R)
	if !ok {
		t.Fatal(c)
	}
	at := int(next(s) % 6)
	part := next(s) % 5
	for axis := range 2 {
		from, to := corners[at][axis], corners[(at+1)%6][axis]
		n := (from*(4-part)+to*part)/12 + next(s)%5 - 2
		long := []int64{0, 0, 1, 7, max(from-to, to-from) / 3, 1 << 28}[next(s)%6]
		least[axis], most[axis] = n, n+long
		switch next(s) % 4 {
		case 0, 1:
			least[axis], most[axis] = n-long, n
		case 2:
			if next(s)%4 == 0 {
				least[axis] = -far
			}
		default:
			if next(s)%4 == 0 {
				most[axis] = far
			}
		}
	}
	return least, most
}

// 10.1: Touches is exact, of boxes whose corners lie close to the edges of cells of all sizes.
func TestTouchesEdges(t *testing.T) {
	s := uint64(10)
	count := map[bool]int{}
	for _, c := range someCells(t) {
		if !cell.Ok(c) {
			t.Fatal(c)
		}
		for range 150 {
			least, most := someBox(t, c, &s)
			agree(t, c, least, most)
			count[cover.Touches(c, least, most)]++
		}
	}
	if count[true] < 3000 || count[false] < 3000 {
		t.Error(count)
	}
}

// 10.1: a box whose corner lies just at an edge, which leads off from it, touches; one beside it does not.
func TestTouchesBesideEdges(t *testing.T) {
	for r := 0; r <= 12; r++ {
		for _, c := range []api.Cell{of(r, 0, 0), of(r, 3, 6), of(r, -9, 3)} {
			corners, _ := plane.Hex(c.Z, c.R)
			for i, p := range corners {
				q := corners[(i+1)%6]
				middle := point{(p[0] + q[0]) / 6, (p[1] + q[1]) / 6}
				for x := middle[0] - 1; x <= middle[0]+1; x++ {
					for y := middle[1] - 1; y <= middle[1]+1; y++ {
						agree(t, c, point{x, y}, point{x, y})
						agree(t, c, point{x, y}, point{far, far})
						agree(t, c, point{x, -far}, point{far, y})
						agree(t, c, point{-far, y}, point{x, far})
						agree(t, c, point{-far, -far}, point{x, y})
					}
				}
			}
		}
	}
}

// 10.1: Touches is false, if c is no Ok cell.
func TestTouchesNoCell(t *testing.T) {
	for _, r := range []int{math.MinInt, -1 << 32, -7, -1, 13, 14, 1 << 32, 12 + 1<<32, math.MaxInt} {
		for _, z := range []api.E{{}, {A: 1, B: -1}, {A: hi, B: lo}} {
			if cover.Touches(api.Cell{R: r, Z: z}, point{-far, -far}, point{far, far}) {
				t.Error(r, z)
			}
		}
	}
	for _, c := range []api.Cell{of(12, 1<<30+1, 0), of(12, 0, -1<<30-1), of(12, 1<<30, 1<<30), of(12, hi, 0), of(12, lo, 0), of(12, 0, hi), of(12, lo, lo), of(12, 1<<32, 0), of(12, 0, 1<<40), of(0, 1<<32, 1<<32)} {
		if cover.Touches(c, point{-far, -far}, point{far, far}) {
			t.Error(c)
		}
	}
}

// 10.1: some hexagons lie in the greatest box, and Touches is false all the same, for their bases are beyond -512 to 511.
func TestTouchesBeyondTheRim(t *testing.T) {
	count := map[bool]int{}
	for _, rim := range []int64{-515, -514, -513, -512, -511, 510, 511, 512, 513, 514} {
		for n := int64(-600); n <= 600; n++ {
			for _, base := range []api.Cell{of(0, n, rim), of(0, rim, n)} {
				x, y, ok := plane.Centre(base.Z, 0)
				if !ok || x < -far || x > far || y < -far || y > far {
					continue
				}
				want := -512 <= min(n, rim) && max(n, rim) <= 511
				count[want]++
				beta, _ := eisen.Beta(1)
				z, _ := eisen.Mul(base.Z, beta)
				for _, c := range append(beside(api.Cell{R: 1, Z: z}), base, api.Cell{R: 1, Z: z}) {
					if isIn := cover.Touches(c, point{-far, -far}, point{far, far}); isIn != want {
						// Of a base whose centre lies close to the end of the box some children lie beyond it.
						if !want || touches(t, c, point{-far, -far}, point{far, far}) {
							t.Error(c, "touches is", want)
						}
					}
				}
			}
		}
	}
	if count[true] < 100 || count[false] < 100 {
		t.Error(count)
	}
}

// 10.1: Touches is false, if a number is outside -2^31 to 2^31, whatever it wraps to.
func TestTouchesFar(t *testing.T) {
	beyond := []int64{far + 1, far + 2, 1 << 32, 1<<32 + 1, 1 << 33, 1 << 40, 1 << 62, 1<<62 + 1, hi / 3, hi/3 + 1, hi/3*2 + 1, hi - 1, hi}
	for r := 0; r <= 12; r++ {
		c := of(r, 0, 0)
		if !cover.Touches(c, point{-far, -far}, point{far, far}) {
			t.Error(r)
		}
		for _, n := range beyond {
			for _, x := range [][2]point{{{0, 0}, {n, 0}}, {{0, 0}, {0, n}}, {{-n, 0}, {0, 0}}, {{0, -n}, {0, 0}}, {{-n, -n}, {n, n}}, {{-far, -far}, {n, far}}, {{-far, -far}, {far, n}}, {{-n, -far}, {far, far}}, {{-far, -n}, {far, far}}, {{lo, lo}, {n, n}}} {
				if cover.Touches(c, x[0], x[1]) {
					t.Error(c, x)
				}
			}
		}
		for _, x := range [][2]point{{{0, 0}, {far, 0}}, {{0, 0}, {0, far}}, {{-far, 0}, {0, 0}}, {{0, -far}, {0, 0}}} {
			if !cover.Touches(c, x[0], x[1]) {
				t.Error(c, x)
			}
		}
	}
}

// 10.1: Touches is false, if hi is below lo in x or y.
func TestTouchesTurned(t *testing.T) {
	for r := 0; r <= 12; r++ {
		c := of(r, 0, 0)
		for _, n := range []int64{1, 2, 5, 1 << 20, far} {
			for _, x := range [][2]point{{{n, 0}, {0, 0}}, {{0, n}, {0, 0}}, {{0, 0}, {-n, 0}}, {{0, 0}, {0, -n}}, {{n, 0}, {0, n}}, {{0, n}, {n, 0}}, {{n, n}, {-n, -n}}, {{1, -n}, {0, n}}, {{-n, 1}, {n, 0}}} {
				if cover.Touches(c, x[0], x[1]) {
					t.Error(c, x)
				}
			}
		}
	}
}

// 10.3: a call that went on, or panicked, would end the test.
func TestTouchesAnything(t *testing.T) {
	numbers := []int64{lo, lo + 1, -far - 1, -far, -1, 0, 1, far, hi}
	parts := []int64{lo, -1<<30 - 1, -1 << 30, -512, 0, 511, 1 << 30, hi}
	var l []api.Cell
	for _, r := range []int{math.MinInt, -1, 0, 12, 13, math.MaxInt} {
		for i, a := range parts {
			l = append(l, of(r, a, parts[len(parts)-1-i]), of(r, a, a), of(r, 0, a))
		}
	}
	for _, c := range l {
		for _, x := range numbers {
			for _, y := range numbers {
				for _, x2 := range numbers {
					for _, y2 := range numbers {
						if cover.Touches(c, point{x, y}, point{x2, y2}) && (!cell.Ok(c) || !isNear(point{x, y}, point{x2, y2}) || x2 < x || y2 < y) {
							t.Fatal(c, x, y, x2, y2)
						}
					}
				}
			}
		}
	}
}
