package near_test

import (
	"math/big"
	"slices"
	"testing"

	"apiary/api"
	"apiary/cell"
	"apiary/ident"
	"apiary/near"
)

// pairs is pairs of cells of one size: near to each other, spread, and along the rim.
func pairs() [][2]api.Cell {
	var l [][2]api.Cell
	p := places()
	for i, a := range p {
		if i%3 != 0 {
			continue
		}
		for j := i % 7; j < len(p); j += 7 {
			if p[j].R == a.R {
				l = append(l, [2]api.Cell{a, p[j]})
			}
		}
		for _, by := range []api.E{{}, {A: 1, B: 1}, {A: -1, B: 3}, {A: 40, B: -13}, {A: -25, B: -26}, {A: -7, B: 30}, {A: 60}, {B: 61}, {A: -33, B: 33}} {
			if b := of(a.R, a.Z.A+by.A, a.Z.B+by.B); cell.Ok(b) {
				l = append(l, [2]api.Cell{a, b}, [2]api.Cell{b, a})
			}
		}
	}
	return l
}

// 6.1: Distance tells the steps between two cells.
func TestDistance(t *testing.T) {
	for _, x := range pairs() {
		if n, err := near.Distance(word(t, x[0]), word(t, x[1])); n != far(x[0].Z, x[1].Z) || err != api.OK {
			t.Error(x, n, err)
		}
	}
}

// 6.2, W5: Distance is a metric.
func TestDistanceIsMetric(t *testing.T) {
	distance := func(a, b api.Cell) int64 {
		n, err := near.Distance(word(t, a), word(t, b))
		if err != api.OK || n < 0 {
			t.Error(a, b, n, err)
		}
		return n
	}
	var l [13][]api.Cell
	for _, c := range places() {
		l[c.R] = append(l[c.R], c)
	}
	for r := range 13 {
		some := l[r][:min(24, len(l[r]))]
		for _, a := range some {
			for _, b := range some {
				n := distance(a, b)
				if (n == 0) != (a == b) || n != distance(b, a) {
					t.Error(a, b, n)
				}
				for _, c := range some[:8] {
					if distance(a, c)+distance(c, b) < n {
						t.Error(a, b, c)
					}
				}
			}
		}
	}
}

// 6.2: Distance is the number of steps, each to a Neighbour, and no fewer lead there.
func TestDistanceCountsSteps(t *testing.T) {
	for _, c := range []api.Cell{of(0, 500, 500), of(5, -9, 4), of(12, 77, 1000)} {
		first := word(t, c)
		seen := map[uint64]bool{first: true}
		last := []uint64{first}
		for n := int64(0); n < 9; n++ {
			var beyond []uint64
			for _, w := range last {
				if told, err := near.Distance(first, w); told != n || err != api.OK {
					t.Fatal(c, n, told, err)
				}
				l, _ := near.Neighbours(w)
				for _, x := range l {
					if !seen[x] {
						seen[x] = true
						beyond = append(beyond, x)
					}
				}
			}
			last = beyond
		}
	}
}

// nearest is the number nearest to u by d, of several the one of least A, then least B: found by looking at all about.
func nearest(u, d, v *big.Int) api.E {
	a, _ := new(big.Int).DivMod(u, d, new(big.Int))
	b, _ := new(big.Int).DivMod(v, d, new(big.Int))
	var least *big.Int
	best := api.E{}
	for i := a.Int64() - 2; i <= a.Int64()+2; i++ {
		for j := b.Int64() - 2; j <= b.Int64()+2; j++ {
			x := new(big.Int).Sub(u, new(big.Int).Mul(d, big.NewInt(i)))
			y := new(big.Int).Sub(v, new(big.Int).Mul(d, big.NewInt(j)))
			n := new(big.Int).Mul(x, x)
			n.Add(n, new(big.Int).Mul(x, y)).Add(n, new(big.Int).Mul(y, y))
			if least == nil || n.Cmp(least) < 0 {
				least, best = n, api.E{A: i, B: j}
			}
		}
	}
	return best
}

// between is what 6.1 says of the i-th of n along a line.
func between(a, b api.E, i, n int64) api.E {
	if n == 0 {
		return a
	}
	mix := func(x, y int64) *big.Int {
		sum := new(big.Int).Mul(big.NewInt(n-i), big.NewInt(x))
		return sum.Add(sum, new(big.Int).Mul(big.NewInt(i), big.NewInt(y)))
	}
	return nearest(mix(a.A, b.A), big.NewInt(n), mix(a.B, b.B))
}

// lineOf is the line that must be told, and how many cells are left out of it.
func lineOf(a, b api.Cell) (l []uint64, left int) {
	n := far(a.Z, b.Z)
	for i := range n + 1 {
		if w, err := ident.Of(api.Cell{R: a.R, Z: between(a.Z, b.Z, i, n)}); err == api.OK {
			l = append(l, w)
		} else {
			left++
		}
	}
	return l, left
}

// 6.1: Line tells what is nearest to each place along the way, and leaves out what is not Ok.
func TestLine(t *testing.T) {
	cut := 0
	for _, x := range pairs() {
		if far(x[0].Z, x[1].Z) > 100 {
			continue
		}
		want, left := lineOf(x[0], x[1])
		if left > 0 {
			cut++
		}
		if l, err := near.Line(word(t, x[0]), word(t, x[1])); !slices.Equal(l, want) || err != api.OK {
			t.Errorf("%v: %d cells and are %d, %v", x, len(l), len(want), err)
		}
	}
	if cut < 5 {
		t.Error("too few along the rim:", cut)
	}
}

// 6.1: lines by hand: of one cell, there and back, and half way between two.
func TestLineByHand(t *testing.T) {
	for _, x := range []struct {
		r    int
		a, b api.E
		want []api.E
	}{
		{4, api.E{A: 3, B: 4}, api.E{A: 3, B: 4}, []api.E{{A: 3, B: 4}}},
		{0, api.E{A: -512, B: -512}, api.E{A: -512, B: -512}, []api.E{{A: -512, B: -512}}},
		{4, api.E{}, api.E{A: 1}, []api.E{{}, {A: 1}}},
		{4, api.E{}, api.E{A: 1, B: 1}, []api.E{{}, {B: 1}, {A: 1, B: 1}}},
		{4, api.E{A: 1, B: 1}, api.E{}, []api.E{{A: 1, B: 1}, {B: 1}, {}}},
		{12, api.E{}, api.E{A: -2, B: 1}, []api.E{{}, {A: -1}, {A: -2, B: 1}}},
		{12, api.E{}, api.E{A: -1, B: -1}, []api.E{{}, {A: -1}, {A: -1, B: -1}}},
		{9, api.E{A: 2, B: 3}, api.E{A: -1, B: 3}, []api.E{{A: 2, B: 3}, {A: 1, B: 3}, {B: 3}, {A: -1, B: 3}}},
		{9, api.E{A: 5, B: -2}, api.E{}, []api.E{{A: 5, B: -2}, {A: 4, B: -2}, {A: 3, B: -1}, {A: 2, B: -1}, {A: 1}, {}}},
	} {
		var want []uint64
		for _, z := range x.want {
			want = append(want, word(t, api.Cell{R: x.r, Z: z}))
		}
		if l, err := near.Line(word(t, api.Cell{R: x.r, Z: x.a}), word(t, api.Cell{R: x.r, Z: x.b})); !slices.Equal(l, want) || err != api.OK {
			t.Errorf("%v: %x %x %v", x, l, want, err)
		}
	}
}

// 6.1: lines of the greatest length there is, and of one more.
func TestLongLines(t *testing.T) {
	for _, x := range []struct {
		c  api.Cell
		by api.E
	}{
		{of(12, 0, 0), api.E{A: 10000}}, {of(12, 0, 0), api.E{A: -4000, B: -6000}}, {of(12, 1<<24, -1<<23), api.E{A: 3333, B: -10000}}, {of(11, -1<<22, 1<<23), api.E{A: -9999, B: 10000}}, {of(5, 10, 10), api.E{B: 9999}},
	} {
		a, b := x.c, of(x.c.R, x.c.Z.A+x.by.A, x.c.Z.B+x.by.B)
		n := far(a.Z, b.Z)
		l, err := near.Line(word(t, a), word(t, b))
		if err != api.OK || len(l) != int(n)+1 || l[0] != word(t, a) || l[n] != word(t, b) {
			t.Fatal(a, b, len(l), err)
		}
		for i, w := range l {
			c, _ := ident.Cell(w)
			if i > 0 {
				ahead, _ := ident.Cell(l[i-1])
				if far(ahead.Z, c.Z) != 1 {
					t.Error(a, b, "leaps at", i)
				}
			}
			if i%97 == 0 && c.Z != between(a.Z, b.Z, int64(i), n) {
				t.Error(a, b, i, c)
			}
		}
	}
	for _, by := range []api.E{{A: 10001}, {A: -5001, B: -5000}, {A: 10001, B: -10001}, {A: 20000000}} {
		if l, err := near.Line(word(t, of(12, 0, 0)), word(t, of(12, by.A, by.B))); len(l) != 0 || err != api.ErrMany {
			t.Error(by, len(l), err)
		}
		if n, err := near.Distance(word(t, of(12, 0, 0)), word(t, of(12, by.A, by.B))); n != far(api.E{}, by) || err != api.OK {
			t.Error(by, n, err)
		}
	}
}

// 6.1, W6: what Distance and Line refuse, in which order.
func TestPairsRefused(t *testing.T) {
	coarse, fine, remote := word(t, of(3, 1, 1)), word(t, of(12, 1, 1)), word(t, of(12, 20001, 1))
	type refusal struct {
		a, b uint64
		err  api.Errno
	}
	l := []refusal{
		{noWord, noWord, api.ErrWord}, {noWord, fine, api.ErrWord}, {fine, noWord, api.ErrWord},
		{coarse, fine, api.ErrRes}, {fine, coarse, api.ErrRes}, {coarse, remote, api.ErrRes}, {word(t, of(0, 0, 0)), word(t, of(1, 0, 0)), api.ErrRes},
	}
	for _, w := range noWords {
		l = append(l, refusal{w, fine, api.ErrWord}, refusal{fine, w, api.ErrWord})
	}
	for _, x := range l {
		if n, err := near.Distance(x.a, x.b); n != 0 || err != x.err {
			t.Errorf("Distance %x %x %d %v", x.a, x.b, n, err)
		}
		if l, err := near.Line(x.a, x.b); len(l) != 0 || err != x.err {
			t.Errorf("Line %x %x %d %v", x.a, x.b, len(l), err)
		}
	}
}
