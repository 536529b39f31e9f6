package cell_test

import (
	"math"
	"slices"
	"testing"

	"apiary/api"
	"apiary/cell"
)

// 4.1: a number above size 0 is Beta times its parent's and (0, 0) or a Unit, in one way: Parent and Digit tell it.
func TestParentAndDigit(t *testing.T) {
	for _, l := range someLines() {
		for r := 1; r <= 12; r++ {
			c := l.cells[r]
			if _, _, ways := up(c.Z); ways != 1 {
				t.Error(c, ways)
			}
			if p, err := cell.Parent(c); p != l.cells[r-1] || err != api.OK {
				t.Error(c, p, err)
			}
			if k := cell.Digit(c); k != l.digits[r] {
				t.Error(c, k, "and is", l.digits[r])
			}
		}
		if p, err := cell.Parent(l.cells[0]); p != (api.Cell{}) || err != api.ErrParent {
			t.Error(l.cells[0], p, err)
		}
		if k := cell.Digit(l.cells[0]); k != -1 {
			t.Error(l.cells[0], k)
		}
	}
	for _, c := range noCells() {
		if p, err := cell.Parent(c); p != (api.Cell{}) || err != api.ErrCell {
			t.Error(c, p, err)
		}
		if k := cell.Digit(c); k != -1 {
			t.Error(c, k)
		}
	}
}

// 4.1: Parent and Digit of all numbers about 0.
func TestParentAndDigitAboutNought(t *testing.T) {
	for a := int64(-30); a <= 30; a++ {
		for b := int64(-30); b <= 30; b++ {
			z, digit, ways := up(e(a, b))
			if ways != 1 {
				t.Error(a, b, ways)
			}
			for r := 1; r <= 12; r++ {
				if p, err := cell.Parent(of(r, a, b)); p != (api.Cell{R: r - 1, Z: z}) || err != api.OK {
					t.Error(r, a, b, p, err)
				}
				if k := cell.Digit(of(r, a, b)); k != digit {
					t.Error(r, a, b, k)
				}
			}
		}
	}
}

// 4.1: parents and digits, by hand.
func TestParentByHand(t *testing.T) {
	for _, x := range []struct {
		c, want api.Cell
		digit   int
	}{
		{of(12, 2, 1), of(11, 1, 0), 0}, {of(12, 3, 1), of(11, 1, 0), 1}, {of(12, 2, 2), of(11, 1, 0), 2}, {of(12, 1, 2), of(11, 1, 0), 3},
		{of(12, 1, 1), of(11, 1, 0), 4}, {of(12, 2, 0), of(11, 1, 0), 5}, {of(12, 3, 0), of(11, 1, 0), 6},
		{of(1, 0, 0), of(0, 0, 0), 0}, {of(1, 1, 0), of(0, 0, 0), 1}, {of(1, 0, 1), of(0, 0, 0), 2}, {of(1, -1, 1), of(0, 0, 0), 3},
		{of(1, -1, 0), of(0, 0, 0), 4}, {of(1, 0, -1), of(0, 0, 0), 5}, {of(1, 1, -1), of(0, 0, 0), 6},
		{of(7, -1, 3), of(6, 0, 1), 0}, {of(7, -2, -1), of(6, -1, 0), 0},
	} {
		p, err := cell.Parent(x.c)
		if k := cell.Digit(x.c); p != x.want || err != api.OK || k != x.digit {
			t.Error(x, p, err, k)
		}
	}
}

// 4.1: Children are seven, by their digits, and all of them may be.
func TestChildren(t *testing.T) {
	for _, l := range someLines() {
		for r := 0; r < 12; r++ {
			c := l.cells[r]
			kids, err := cell.Children(c)
			if len(kids) != 7 || err != api.OK {
				t.Fatal(c, kids, err)
			}
			for k, x := range kids {
				if x != (api.Cell{R: r + 1, Z: down(c.Z, k)}) || !cell.Ok(x) || cell.Digit(x) != k {
					t.Error(c, k, x)
				}
			}
		}
		if kids, err := cell.Children(l.cells[12]); len(kids) != 0 || err != api.ErrArg {
			t.Error(l.cells[12], kids, err)
		}
	}
	for _, c := range noCells() {
		if kids, err := cell.Children(c); len(kids) != 0 || err != api.ErrCell {
			t.Error(c, kids, err)
		}
	}
	want := []api.Cell{of(4, 3, -2), of(4, 4, -2), of(4, 3, -1), of(4, 2, -1), of(4, 2, -2), of(4, 3, -3), of(4, 4, -3)}
	if kids, err := cell.Children(of(3, 1, -1)); !slices.Equal(kids, want) || err != api.OK {
		t.Error(kids, err)
	}
}

// 4.1: what Children answers is a list of its own each time.
func TestChildrenAreNew(t *testing.T) {
	first, _ := cell.Children(of(5, 1, 2))
	kept := slices.Clone(first)
	for i := range first[:cap(first)] {
		first[:cap(first)][i] = of(99, hi, lo)
	}
	if kids, _ := cell.Children(of(5, 1, 2)); !slices.Equal(kids, kept) {
		t.Error(kids, kept)
	}
}

// 4.1: Base and Up go up by Parents, as far as is asked.
func TestBaseAndUp(t *testing.T) {
	for _, l := range someLines() {
		for r, c := range l.cells {
			if b, err := cell.Base(c); b != l.cells[0] || err != api.OK {
				t.Error(c, b, err)
			}
			for s := range r + 1 {
				if a, err := cell.Up(c, s); a != l.cells[s] || err != api.OK {
					t.Error(c, s, a, err)
				}
			}
			for _, s := range []int{-1, r + 1, 12 + r, 13, -256, 1 << 32, math.MaxInt, math.MinInt} {
				if s == r {
					continue
				}
				if a, err := cell.Up(c, s); a != (api.Cell{}) || err != api.ErrArg {
					t.Error(c, s, a, err)
				}
			}
		}
	}
	for _, c := range noCells() {
		if b, err := cell.Base(c); b != (api.Cell{}) || err != api.ErrCell {
			t.Error(c, b, err)
		}
		for _, s := range []int{0, c.R, -1, 13, math.MinInt} {
			if a, err := cell.Up(c, s); a != (api.Cell{}) || err != api.ErrCell {
				t.Error(c, s, a, err)
			}
		}
	}
}

// 4.1: a cell lies within itself and those that Parents go through, and within no other.
func TestWithin(t *testing.T) {
	for _, l := range someLines() {
		for r, c := range l.cells {
			for s, a := range l.cells {
				if got := cell.Within(c, a); got != (s <= r) {
					t.Error(c, a, got)
				}
				for _, way := range parts[1:] {
					if beside := (api.Cell{R: s, Z: add(a.Z, way)}); cell.Within(c, beside) {
						t.Error(c, beside)
					}
				}
			}
		}
	}
	if !cell.Within(of(0, 3, 3), of(0, 3, 3)) || cell.Within(of(1, 0, 0), of(0, 1, 0)) || cell.Within(of(0, 0, 0), of(1, 0, 0)) || cell.Within(of(3, 0, 0), of(2, 0, 1)) {
		t.Error("by hand")
	}
}

// 4.1: nothing lies within what is no cell, nor what is none within anything, be it itself.
func TestWithinOfNone(t *testing.T) {
	for _, c := range noCells() {
		if cell.Within(c, c) || cell.Within(of(12, 0, 0), c) || cell.Within(c, of(0, 0, 0)) {
			t.Error(c)
		}
	}
	for _, base := range []api.E{e(512, 0), e(0, -513), e(600, -600)} {
		for _, l := range linesOf(base) {
			for _, c := range l.cells {
				for _, a := range l.cells {
					if cell.Within(c, a) {
						t.Error(c, a)
					}
				}
			}
		}
	}
}

// count tells how often c is in a list.
func count(l []api.Cell, c api.Cell) int {
	n := 0
	for _, x := range l {
		if x == c {
			n++
		}
	}
	return n
}

// 4.2: each cell is in the Children of its Parent once, and of none of those about it.
func TestEachIsAChildOfOne(t *testing.T) {
	for _, l := range someLines() {
		for r := 1; r <= 12; r++ {
			c := l.cells[r]
			p, _ := cell.Parent(c)
			found := 0
			for a := int64(-2); a <= 2; a++ {
				for b := int64(-2); b <= 2; b++ {
					kids, _ := cell.Children(api.Cell{R: r - 1, Z: add(p.Z, e(a, b))})
					found += count(kids, c)
				}
			}
			kids, _ := cell.Children(p)
			if found != 1 || count(kids, c) != 1 {
				t.Error(c, found, kids)
			}
		}
	}
}

// 4.2: the Children of all bases are all cells of size 1, each once.
func TestChildrenOfAllBases(t *testing.T) {
	const side, middle = 4200, 2100
	seen := make([]byte, side*side)
	for a := int64(-512); a <= 511; a++ {
		for b := int64(-512); b <= 511; b++ {
			kids, _ := cell.Children(of(0, a, b))
			if len(kids) != 7 {
				t.Fatal(a, b, kids)
			}
			for _, x := range kids {
				seen[(x.Z.A+middle)*side+x.Z.B+middle]++
			}
		}
	}
	for i, n := range seen {
		if c := of(1, int64(i/side)-middle, int64(i%side)-middle); n > 1 || (n == 1) != cell.Ok(c) {
			t.Fatal(c, n)
		}
	}
}
