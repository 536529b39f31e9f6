package near_test

import (
	"math"
	"slices"
	"testing"

	"apiary/api"
	"apiary/cell"
	"apiary/ident"
	"apiary/near"
)

// noWord is 64 bits that are no cell's; others are told by noWords.
const noWord = 0xa5

var noWords = []uint64{0, 1, noWord, 1 << 63, math.MaxUint64, 0x0080200fffffffff, 0x1080200ffffffffe, 0x1d80200000000000, 0x1c80200000000007}

func of(r int, a, b int64) api.Cell { return api.Cell{R: r, Z: api.E{A: a, B: b}} }

// word tells the word of an Ok cell.
func word(t *testing.T, c api.Cell) uint64 {
	t.Helper()
	w, err := ident.Of(c)
	if err != api.OK {
		t.Fatal(c, err)
	}
	return w
}

// next tells numbers that are spread, the same ones each time.
func next(s *uint64) int64 {
	*s = *s*6364136223846793005 + 1442695040888963407
	return int64(*s >> 33)
}

// places is cells of all sizes: about 0, spread, and at the rim, of which some miss neighbours.
func places() []api.Cell {
	var l []api.Cell
	s := uint64(6)
	for r := range 13 {
		l = append(l, of(r, 0, 0), of(r, 1, 0), of(r, -3, 2), of(r, 7, -20))
	}
	for _, base := range []api.E{{A: -512, B: -512}, {A: -512, B: 511}, {A: 511, B: -512}, {A: 511, B: 511}, {A: 511, B: 3}, {A: -512, B: -40}, {A: 9, B: -512}, {A: 77, B: 511}, {A: 31, B: -200}} {
		for digit := range 8 {
			c := api.Cell{Z: base}
			for r := 1; r <= 12; r++ {
				l = append(l, c)
				kids, _ := cell.Children(c)
				if digit < 7 {
					c = kids[digit]
				} else {
					c = kids[next(&s)%7]
				}
			}
			l = append(l, c)
		}
	}
	return l
}

// far is how many steps a and b are apart, as the cube of three parts whose sum is 0 tells it.
func far(a, b api.E) int64 {
	x, y := a.A-b.A, a.B-b.B
	return (size(x) + size(y) + size(x+y)) / 2
}

func size(n int64) int64 { return max(n, -n) }

// about is the words of all Ok cells at the distances from least to most of c, found by looking at each cell of a square; rising.
func about(c api.Cell, least, most int64) []uint64 {
	var l []uint64
	for a := c.Z.A - most; a <= c.Z.A+most; a++ {
		for b := c.Z.B - most; b <= c.Z.B+most; b++ {
			other := of(c.R, a, b)
			if n := far(other.Z, c.Z); n < least || n > most {
				continue
			}
			if w, err := ident.Of(other); err == api.OK {
				l = append(l, w)
			}
		}
	}
	slices.Sort(l)
	return l
}

// 6.1: Neighbours tells those of Z and each Unit that are Ok, rising.
func TestNeighbours(t *testing.T) {
	fewer := 0
	for _, c := range places() {
		var want []uint64
		for _, u := range []api.E{{A: 1}, {B: 1}, {A: -1, B: 1}, {A: -1}, {B: -1}, {A: 1, B: -1}} {
			if other := of(c.R, c.Z.A+u.A, c.Z.B+u.B); cell.Ok(other) {
				want = append(want, word(t, other))
			}
		}
		slices.Sort(want)
		if len(want) < 6 {
			fewer++
		}
		if l, err := near.Neighbours(word(t, c)); !slices.Equal(l, want) || err != api.OK {
			t.Errorf("%v %x %x %v", c, l, want, err)
		}
	}
	if fewer < 50 {
		t.Error("too few at the rim:", fewer)
	}
	for _, w := range noWords {
		if l, err := near.Neighbours(w); len(l) != 0 || err != api.ErrWord {
			t.Errorf("%x %x %v", w, l, err)
		}
	}
}

// 6.1: words that were put down by hand.
func TestByHand(t *testing.T) {
	for _, x := range []struct {
		c    api.Cell
		want []api.Cell
	}{
		{of(0, 0, 0), []api.Cell{of(0, -1, 0), of(0, -1, 1), of(0, 0, -1), of(0, 0, 1), of(0, 1, -1), of(0, 1, 0)}},
		{of(0, 511, 511), []api.Cell{of(0, 510, 511), of(0, 511, 510)}},
		{of(0, -512, -512), []api.Cell{of(0, -512, -511), of(0, -511, -512)}},
		{of(0, 511, -512), []api.Cell{of(0, 510, -512), of(0, 510, -511), of(0, 511, -511)}},
		{of(0, -512, 511), []api.Cell{of(0, -512, 510), of(0, -511, 510), of(0, -511, 511)}},
		{of(0, 511, 7), []api.Cell{of(0, 510, 7), of(0, 510, 8), of(0, 511, 6), of(0, 511, 8)}},
		{of(1, 0, 0), []api.Cell{of(1, 1, 0), of(1, 0, 1), of(1, -1, 1), of(1, -1, 0), of(1, 0, -1), of(1, 1, -1)}},
	} {
		var want []uint64
		for _, c := range x.want {
			want = append(want, word(t, c))
		}
		if l, err := near.Neighbours(word(t, x.c)); !slices.Equal(l, want) || err != api.OK {
			t.Errorf("%v %x %x %v", x.c, l, want, err)
		}
	}
	for _, x := range []struct {
		a, b api.E
		n    int64
	}{
		{api.E{}, api.E{}, 0}, {api.E{}, api.E{A: 3, B: -1}, 3}, {api.E{A: 3, B: 2}, api.E{}, 5}, {api.E{A: -3, B: 2}, api.E{}, 3},
		{api.E{A: -2, B: -2}, api.E{}, 4}, {api.E{A: 1, B: 1}, api.E{A: 1, B: -6}, 7}, {api.E{A: -512, B: -512}, api.E{A: 511, B: 511}, 2046}, {api.E{A: -512, B: 511}, api.E{A: 511, B: -512}, 1023},
	} {
		if n, err := near.Distance(word(t, api.Cell{Z: x.a}), word(t, api.Cell{Z: x.b})); n != x.n || err != api.OK {
			t.Error(x, n, err)
		}
	}
}

// 6.1, 6.2: Ring and Disk of places of all sizes, and a Disk is its Rings.
func TestRingsAndDisks(t *testing.T) {
	for i, c := range places() {
		if i%4 != 0 {
			continue
		}
		w := word(t, c)
		most := 1 + i%9
		var all []uint64
		for k := range most + 1 {
			all = append(all, checkRing(t, c, w, k)...)
			slices.Sort(all)
			if l, err := near.Disk(w, k); !slices.Equal(l, all) || err != api.OK {
				t.Errorf("Disk %v %d: %d cells and are %d, %v", c, k, len(l), len(all), err)
			}
		}
		if want := about(c, 0, int64(most)); !slices.Equal(all, want) {
			t.Errorf("Rings of %v to %d: %d cells and are %d", c, most, len(all), len(want))
		}
	}
}

// checkRing tells a Ring, each of whose cells must lie at k.
func checkRing(t *testing.T, c api.Cell, w uint64, k int) []uint64 {
	t.Helper()
	l, err := near.Ring(w, k)
	if err != api.OK || !slices.IsSorted(l) || len(slices.Compact(slices.Clone(l))) != len(l) || len(l) > max(1, 6*k) {
		t.Errorf("Ring %v %d: %d cells, %v", c, k, len(l), err)
	}
	for _, x := range l {
		at, _ := ident.Cell(x)
		if n, err := near.Distance(w, x); at.R != c.R || far(at.Z, c.Z) != int64(k) || n != int64(k) || err != api.OK {
			t.Errorf("Ring %v %d has %v", c, k, at)
		}
	}
	return l
}

// 6.1: the greatest Rings and Disks there are, whole ones and such as the rim cuts.
func TestGreatRings(t *testing.T) {
	for _, c := range []api.Cell{of(0, 0, 0), of(0, -512, 100), of(4, -4000, 8000), of(12, 1<<24, -1<<23)} {
		w := word(t, c)
		for _, k := range []int{81, 600, 3333} {
			want := 0
			for way, u := range []api.E{{A: 1}, {B: 1}, {A: -1, B: 1}, {A: -1}, {B: -1}, {A: 1, B: -1}} {
				turn := []api.E{{A: -1, B: 1}, {A: -1}, {B: -1}, {A: 1, B: -1}, {A: 1}, {B: 1}}[way]
				for i := range int64(k) {
					if cell.Ok(of(c.R, c.Z.A+int64(k)*u.A+i*turn.A, c.Z.B+int64(k)*u.B+i*turn.B)) {
						want++
					}
				}
			}
			if l := checkRing(t, c, w, k); len(l) != want {
				t.Errorf("Ring %v %d: %d cells and are %d", c, k, len(l), want)
			}
		}
		for _, k := range []int64{80, 81} {
			if l, err := near.Disk(w, int(k)); !slices.Equal(l, about(c, 0, k)) || err != api.OK {
				t.Errorf("Disk %v %d: %d cells, %v", c, k, len(l), err)
			}
		}
	}
}

// 6.1: a Ring far beyond the rim is empty, and no error.
func TestNothingThere(t *testing.T) {
	if l, err := near.Ring(word(t, of(0, 0, 0)), 3333); len(l) != 0 || err != api.OK {
		t.Error(len(l), err)
	}
	if l, err := near.Ring(word(t, of(0, 511, 511)), 2046); len(l) != 1 || l[0] != word(t, of(0, -512, -512)) || err != api.OK {
		t.Error(l, err)
	}
}

// 6.1, W6: what Ring and Disk refuse, in which order.
func TestRefused(t *testing.T) {
	w := word(t, of(7, 5, 5))
	for _, x := range []struct {
		w          uint64
		k          int
		ring, disk api.Errno
	}{
		{w, -1, api.ErrArg, api.ErrArg}, {w, math.MinInt, api.ErrArg, api.ErrArg}, {w, -1 << 32, api.ErrArg, api.ErrArg}, {w, -3334, api.ErrArg, api.ErrArg},
		{w, 82, api.OK, api.ErrMany}, {w, 3333, api.OK, api.ErrMany}, {w, 3334, api.ErrMany, api.ErrMany}, {w, 1 << 32, api.ErrMany, api.ErrMany}, {w, math.MaxInt, api.ErrMany, api.ErrMany},
		{noWord, 0, api.ErrWord, api.ErrWord}, {noWord, -1, api.ErrWord, api.ErrWord}, {noWord, 82, api.ErrWord, api.ErrWord}, {noWord, 3334, api.ErrWord, api.ErrWord}, {noWord, math.MinInt, api.ErrWord, api.ErrWord},
	} {
		ring, err := near.Ring(x.w, x.k)
		if err != x.ring || err != api.OK && len(ring) != 0 {
			t.Errorf("Ring %x %d %v", x.w, x.k, err)
		}
		disk, err := near.Disk(x.w, x.k)
		if err != x.disk || err != api.OK && len(disk) != 0 {
			t.Errorf("Disk %x %d %v", x.w, x.k, err)
		}
	}
}

// 6.3: every call ends, and none panics, of words and numbers at all ends.
func TestEveryCallEnds(t *testing.T) {
	words := slices.Clone(noWords)
	for i, c := range places() {
		if i%15 == 0 {
			words = append(words, word(t, c), word(t, c)^1<<(i%64))
		}
	}
	for _, a := range words {
		near.Neighbours(a)
		for _, k := range []int{math.MinInt, math.MinInt + 1, -1, 0, 1, 82, 3334, math.MaxInt - 1, math.MaxInt} {
			near.Ring(a, k)
			near.Disk(a, k)
		}
		for _, b := range words {
			near.Distance(a, b)
			near.Line(a, b)
		}
	}
}
