package poly_test

import (
	"math/big"
	"slices"
	"testing"

	"apiary/api"
	"apiary/poly"
)

func rat(n int64) *big.Rat { return new(big.Rat).SetInt64(n) }

// less tells a less b, exactly.
func less(a, b int64) *big.Rat { return new(big.Rat).Sub(rat(a), rat(b)) }

// onEdge tells by the part of the way from p to q that leads to at.
func onEdge(p, q, at [2]int64) bool {
	for axis := range 2 {
		if p[axis] == q[axis] {
			continue
		}
		part := new(big.Rat).Quo(less(at[axis], p[axis]), less(q[axis], p[axis]))
		if part.Sign() < 0 || part.Cmp(rat(1)) > 0 {
			return false
		}
		other := new(big.Rat).Mul(part, less(q[1-axis], p[1-axis]))
		return other.Cmp(less(at[1-axis], p[1-axis])) == 0
	}
	return p == at
}

// crossed tells where an edge that is not along axis crosses the line of at along it: 1 beyond at, -1 ahead of it, 0 there.
func crossed(p, q, at [2]int64, axis int) int {
	part := new(big.Rat).Quo(less(at[1-axis], p[1-axis]), less(q[1-axis], p[1-axis]))
	place := new(big.Rat).Mul(part, less(q[axis], p[axis]))
	return place.Add(place, rat(p[axis])).Cmp(rat(at[axis]))
}

// isOn asks each edge.
func isOn(rings []ring, at [2]int64) bool {
	for _, r := range rings {
		for i, p := range r {
			if onEdge(p, r[(i+1)%len(r)], at) {
				return true
			}
		}
	}
	return false
}

// isIn counts the edges that are crossed on the way from at along axis, to one side: whichever it is, it is odd or even alike.
func isIn(rings []ring, at [2]int64, axis, side int) bool {
	n := 0
	for _, r := range rings {
		for i, p := range r {
			q := r[(i+1)%len(r)]
			if (p[1-axis] > at[1-axis]) != (q[1-axis] > at[1-axis]) && crossed(p, q, at, axis) == side {
				n++
			}
		}
	}
	return n%2 == 1
}

// agree fails if what is told of a point is not what is exact, reckoned on all four ways off.
func agree(t *testing.T, rings []ring, at [2]int64) {
	t.Helper()
	on := isOn(rings, at)
	if poly.On(rings, at[0], at[1]) != on {
		t.Fatal("On", rings, at, "and is", on)
	}
	for axis := range 2 {
		for _, side := range []int{1, -1} {
			if in := on || isIn(rings, at, axis, side); poly.Inside(rings, at[0], at[1]) != in {
				t.Fatal("Inside", rings, at, "and is", in)
			}
		}
	}
}

// 9.1: On and Inside, by hand.
func TestPlacesByHand(t *testing.T) {
	frame := []ring{square(2, 10), square(4, 8)}
	bow := []ring{{{0, 0}, {8, 8}, {8, 0}, {0, 8}}}
	// Two teeth up from the row of 4, and two down from it.
	teeth := []ring{{{0, 4}, {2, 8}, {4, 4}, {6, 8}, {8, 4}, {6, 0}, {4, 4}, {2, 0}}}
	stairs := []ring{{{2, 0}, {8, 0}, {8, 4}, {6, 4}, {6, 8}, {2, 8}}}
	line := []ring{{{0, 0}, {9, 6}, {0, 0}}}
	for _, x := range []struct {
		name   string
		rings  []ring
		x, y   int64
		on, in bool
	}{
		{"the chapter's", []ring{square(0, 2)}, 1, 1, false, true},
		{"a corner", []ring{square(0, 2)}, 2, 2, true, true},
		{"the first corner", []ring{square(0, 2)}, 0, 0, true, true},
		{"an edge", []ring{square(0, 2)}, 2, 1, true, true},
		{"the last edge", []ring{square(0, 2)}, 0, 1, true, true},
		{"left", []ring{square(0, 2)}, -1, 1, false, false},
		{"right", []ring{square(0, 2)}, 3, 1, false, false},
		{"left in the row of the lower edge", []ring{square(0, 2)}, -1, 0, false, false},
		{"left in the row of the upper edge", []ring{square(0, 2)}, -1, 2, false, false},
		{"in a hole", frame, 6, 6, false, false},
		{"on a hole", frame, 4, 6, true, true},
		{"beside a hole", frame, 3, 6, false, true},
		{"beside a hole in the row of its edge", frame, 3, 4, false, true},
		{"in one of two", []ring{square(0, 6), square(3, 9)}, 1, 1, false, true},
		{"in both of two", []ring{square(0, 6), square(3, 9)}, 4, 4, false, false},
		{"on one and in the other", []ring{square(0, 6), square(3, 9)}, 3, 5, true, true},
		{"in a bow", bow, 1, 4, false, true},
		{"above its knot", bow, 4, 5, false, false},
		{"on its knot", bow, 4, 4, true, true},
		{"left of a tip", teeth, 0, 8, false, false},
		{"between two tips", teeth, 4, 8, false, false},
		{"left of a tip below", teeth, 0, 0, false, false},
		{"in a tooth", teeth, 2, 5, false, true},
		{"in a tooth below", teeth, 6, 3, false, true},
		{"in a row of corners", teeth, 2, 4, false, true},
		{"left of a row of corners", teeth, -1, 4, false, false},
		{"between teeth", teeth, 4, 6, false, false},
		{"in the row of a step", stairs, 3, 4, false, true},
		{"left of the row of a step", stairs, 1, 4, false, false},
		{"on a step", stairs, 7, 4, true, true},
		{"twice about", []ring{times(2, square(0, 4)...)}, 2, 2, false, false},
		{"thrice about", []ring{times(3, square(0, 4)...)}, 2, 2, false, true},
		{"on a line", line, 6, 4, true, true},
		{"beside a line", line, 6, 5, false, false},
		{"beyond a line", line, 12, 8, false, false},
		{"ahead of a line", line, -3, -2, false, false},
		{"on one place", []ring{times(3, [2]int64{4, 4})}, 4, 4, true, true},
		{"off one place", []ring{times(3, [2]int64{4, 4})}, 4, 5, false, false},
	} {
		if on, in := poly.On(x.rings, x.x, x.y), poly.Inside(x.rings, x.x, x.y); on != x.on || in != x.in {
			t.Error(x.name, on, in)
		}
	}
}

// near tells the places of corners, and those beside them.
func near(places []int64) []int64 {
	var l []int64
	for _, n := range places {
		l = append(l, n-1, n, n+1)
	}
	slices.Sort(l)
	return slices.Compact(l)
}

// 9.1: On and Inside of all samples, at and beside their corners, and halfway from corner to corner.
func TestPlaces(t *testing.T) {
	for _, rings := range samples() {
		places := small
		if _, most := poly.Box(rings); most[0] > 9 || most[1] > 9 {
			places = ends
		}
		all := slices.Concat(rings...)
		if len(all) > 100 {
			// Exact numbers are slow.
			places = places[:3]
		}
		for _, x := range near(places) {
			for _, y := range near(places) {
				agree(t, rings, [2]int64{x, y})
			}
		}
		for i, p := range all[:min(len(all), 9)] {
			for _, q := range all[:i] {
				agree(t, rings, [2]int64{(p[0] + q[0]) / 2, (p[1] + q[1]) / 2})
			}
		}
	}
}

// 9.1: what lies just beside the longest edges is not on them, and inside of one side alone.
func TestPlacesBesideLongEdges(t *testing.T) {
	for _, r := range []ring{
		{{0, 0}, {top, top - 1}, {0, top}},
		{{0, 0}, {top - 1, top}, {0, top}},
		{{0, 0}, {top, 1}, {0, 2}},
		{{1, 0}, {0, top}, {2, top}},
		{{top, 0}, {0, top}, {top - 1, top}},
		{{top, 0}, {1, top - 2}, {3, top}},
	} {
		for i, p := range r {
			q := r[(i+1)%3]
			for part := range int64(12) {
				x, y := p[0]+(q[0]-p[0])/11*part, p[1]+(q[1]-p[1])/11*part
				for _, off := range near([]int64{0}) {
					agree(t, []ring{r}, [2]int64{x + off, y})
					agree(t, []ring{r}, [2]int64{x, y + off})
				}
			}
		}
	}
}

// 9.1: points as far as 2^31 off and farther are not in any ring, though numbers would wrap of some.
func TestFarPlaces(t *testing.T) {
	l := []int64{lo, lo + 1, lo + 5, -1 << 62, -1 << 61, -1 << 60, -1<<33 + 5, -1<<32 - 5, -1 << 32, -1<<32 + 5, -far - 1, -far, -far + 1, -top, -1}
	for _, n := range slices.Clone(l) {
		// Of these some tell a place in the world, when looked at as 32 bits, or as 31.
		l = append(l, -(n + 1), n+top+1, n+5, -(n+1)-5)
	}
	for _, rings := range [][]ring{{square(0, top)}, {square(0, 9)}, {{{0, 0}, {top, top}, {0, 9}}}, {{{top, 0}, {0, top}, {top, top}}, square(3, 5)}} {
		for _, n := range l {
			if 0 <= n && n <= top {
				continue
			}
			for _, m := range append([]int64{0, 1, 4, 5, 9, top - 1, top}, l...) {
				for _, p := range [][2]int64{{n, m}, {m, n}} {
					if poly.On(rings, p[0], p[1]) || poly.Inside(rings, p[0], p[1]) {
						t.Error(rings, p)
					}
				}
			}
		}
	}
}

// turned tells a ring the other way about.
func turned(r ring) ring {
	back := slices.Clone(r)
	slices.Reverse(back)
	return back
}

// begun tells a ring from another corner on.
func begun(r ring, at int) ring { return slices.Concat(r[at:], r[:at]) }

// asked is where rings are asked, to tell if they are the same.
func asked(rings []ring) [][2]int64 {
	l := [][2]int64{{-1, 4}, {4, -1}, {4, 4}, {far, 4}, {1 << 29, 1 << 29}}
	for _, r := range rings {
		p, q := r[0], r[len(r)/2]
		l = append(l, p, q, [2]int64{p[0] + 1, q[1]}, [2]int64{(p[0] + q[0]) / 2, (p[1] + q[1]) / 2}, [2]int64{p[0] - 1, q[1] - 1})
	}
	return l
}

// same fails if some call tells another thing of other than of rings.
func same(t *testing.T, rings, other []ring) {
	t.Helper()
	if poly.Check(rings) != poly.Check(other) {
		t.Fatal("Check", rings, other)
	}
	least, most := poly.Box(rings)
	if otherLeast, otherMost := poly.Box(other); least != otherLeast || most != otherMost {
		t.Fatal("Box", rings, other)
	}
	for _, p := range asked(rings) {
		if poly.On(rings, p[0], p[1]) != poly.On(other, p[0], p[1]) || poly.Inside(rings, p[0], p[1]) != poly.Inside(other, p[0], p[1]) {
			t.Fatal(rings, other, p)
		}
	}
}

// 9.2: a ring turned about, or begun elsewhere, is the same, but that Area2 changes sign when it is turned about.
func TestRingsTurnedAndBegunElsewhere(t *testing.T) {
	for _, rings := range samples() {
		for i, r := range rings {
			other := slices.Clone(rings)
			for at := range min(len(r), 30) {
				other[i] = begun(r, at)
				same(t, rings, other)
				if n := poly.Area2(other[i]); n != poly.Area2(r) {
					t.Fatal(r, at, n)
				}
				other[i] = turned(other[i])
				same(t, rings, other)
				if n := poly.Area2(other[i]); n != -poly.Area2(r) {
					t.Fatal(r, at, n)
				}
			}
		}
		other := slices.Clone(rings)
		slices.Reverse(other)
		same(t, rings, other)
	}
}

// 9.2: of rings that are refused, too.
func TestWrongRingsTurnedAndBegunElsewhere(t *testing.T) {
	for name, x := range wrong() {
		if len(x.rings) > 30 || len(x.rings) == 0 || len(x.rings[0]) == 0 || len(x.rings[0]) > 999 {
			continue
		}
		for at := range x.rings[0] {
			for _, r := range []ring{begun(x.rings[0], at), turned(begun(x.rings[0], at))} {
				if err := poly.Check(append([]ring{r}, x.rings[1:]...)); err != x.err {
					t.Error(name, at, err)
				}
				if len(x.rings) == 1 && poly.Area2(r) != 0 {
					t.Error(name, at, poly.Area2(r))
				}
			}
		}
	}
}

// 9.3: a call that went on, or panicked, would end the test: here all with the ends, with one another, and rings of each length.
func TestEveryCallEnds(t *testing.T) {
	hostile := []int64{lo, lo + 1, -far, -1, 0, 1, top, top + 1, far, hi - 1, hi}
	s := uint64(99)
	var l [][]ring
	for n := range 23 {
		l = append(l, make([]ring, n))
		for _, places := range [][]int64{hostile, small, ends} {
			cut := some(&s, n, 30, places)
			for i := range cut {
				cut[i] = cut[i][:next(&s)%int64(len(cut[i])+1)]
			}
			l = append(l, cut, some(&s, n, 3+n, places))
		}
	}
	for _, rings := range l {
		err := poly.Check(rings)
		if err != api.OK && err != api.ErrArg && err != api.ErrMany && err != api.ErrWorld {
			t.Error(rings, err)
		}
		poly.Box(rings)
		for _, r := range rings {
			poly.Area2(r)
		}
		for _, x := range hostile {
			for _, y := range hostile {
				if poly.On(rings, x, y) && !poly.Inside(rings, x, y) {
					t.Error(rings, x, y)
				}
			}
		}
	}
}
