package fill_test

import (
	"slices"
	"strconv"
	"testing"

	"apiary/api"
	"apiary/cell"
	"apiary/eisen"
	"apiary/fill"
	"apiary/near"
	"apiary/pack"
)

// open tells those of some cells that have not all six neighbours among them.
func open(l []api.Cell) []api.Cell {
	in := map[api.Cell]int{}
	for _, c := range l {
		in[c]++
	}
	var some []api.Cell
	for _, c := range l {
		around := 0
		for way := range 6 {
			u := eisen.Unit(way)
			around += in[of(c.R, c.Z.A+u.A, c.Z.B+u.B)]
		}
		if around < 6 {
			some = append(some, c)
		}
	}
	return some
}

// joined puts parents in the place of seven children, one size after the other.
func joined(t *testing.T, l []api.Cell) []api.Cell {
	t.Helper()
	families := map[api.Cell][]api.Cell{}
	var kept, parents []api.Cell
	for _, c := range l {
		p, err := cell.Parent(c)
		if err == api.ErrParent {
			return l
		}
		families[p] = append(families[p], c)
	}
	for p, children := range families {
		if len(children) == 7 {
			parents = append(parents, p)
		} else {
			kept = append(kept, children...)
		}
	}
	if len(parents) > 0 {
		kept = append(kept, joined(t, parents)...)
	}
	return kept
}

// 11.1: Border and Packed of the same rings as Fill, at all sizes.
func TestBorderAndPackedOfAllSizes(t *testing.T) {
	for r := 0; r <= 12; r++ {
		t.Run(strconv.Itoa(r), func(t *testing.T) {
			t.Parallel()
			inner, packed := 0, 0
			for _, rings := range someRings(t, r) {
				all := slow(t, rings, r)
				border, few := sorted(t, open(all)), sorted(t, joined(t, all))
				tells(t, fill.Border, rings, r, border)
				tells(t, fill.Packed, rings, r, few)
				inner += len(all) - len(border)
				packed += len(all) - len(few)
			}
			// There are some that are not open, and some that are packed, where there are parents.
			if inner == 0 || (packed == 0) != (r == 0) {
				t.Error(inner, packed)
			}
		})
	}
}

// 11.1: the border of all that is so many steps off is what is just so many off, and a hole has a border too.
func TestBorderOfHexagons(t *testing.T) {
	for r := 0; r <= 12; r++ {
		c, _ := cell.Of(1<<29, 1<<28, r)
		w, at := word(t, c), centre(t, c)
		hole := ring{{at[0] - 2, at[1] - 1}, {at[0] + 2, at[1] - 1}, {at[0], at[1] + 2}}
		for k := range 6 {
			outer, err := near.Ring(w, k)
			if err != api.OK {
				t.Fatal(c, err)
			}
			rings := []ring{hexagon(t, c, int64(k))}
			tells(t, fill.Border, rings, r, outer)
			if k < 3 {
				continue
			}
			inner, _ := near.Neighbours(w)
			both := slices.Concat(outer, inner)
			slices.Sort(both)
			tells(t, fill.Border, append(rings, hole), r, both)
		}
	}
}

// 11.1: Border, by hand. Of 12 (A, B) lies at 52 A + 26 B, 45 B.
func TestBorderByHand(t *testing.T) {
	// Rows of three, two and three: each has a neighbour that is not there.
	narrow := []point{{0, 0}, {1, 0}, {2, 0}, {0, 1}, {1, 1}, {-1, 2}, {0, 2}, {1, 2}}
	tells(t, fill.Border, []ring{square(0, 0, 104, 90)}, 12, wordsOf(t, 12, narrow...))
	// Rows of four, three and four: the middle one alone has all six.
	wide := []point{{0, 0}, {1, 0}, {2, 0}, {3, 0}, {0, 1}, {2, 1}, {-1, 2}, {0, 2}, {1, 2}, {2, 2}}
	tells(t, fill.Border, []ring{square(0, 0, 156, 90)}, 12, wordsOf(t, 12, wide...))
	tells(t, fill.Border, []ring{{{52, 0}, {52, 0}, {52, 0}}}, 12, wordsOf(t, 12, point{1, 0}))
	tells(t, fill.Border, []ring{{{1, 1}, {2, 1}, {1, 2}}}, 12, nil)
}

// children tells the seven children of a cell.
func children(t *testing.T, c api.Cell) []api.Cell {
	t.Helper()
	l, err := cell.Children(c)
	if err != api.OK {
		t.Fatal(c, err)
	}
	return l
}

// 11.1: seven brothers are packed as their parent, seven families as theirs, and cells of seven families as themselves.
func TestPackedByFamilies(t *testing.T) {
	for r := 2; r <= 12; r++ {
		elder, _ := cell.Of(1<<28, 1<<29, r-2)
		var rings []ring
		var parents []api.Cell
		for _, p := range children(t, elder) {
			middle := children(t, p)[0]
			one := hexagon(t, middle, 1)
			tells(t, fill.Packed, []ring{one}, r, sorted(t, []api.Cell{p}))
			// Without a corner of the ring its child is not in it.
			if l, err := fill.Packed([]ring{one[:5]}, r); len(l) != 6 || err != api.OK || pack.Covers(l, word(t, p)) {
				t.Error(p, len(l), err)
			}
			beside := children(t, p)[3]
			disk, _ := near.Disk(word(t, beside), 1)
			tells(t, fill.Packed, []ring{hexagon(t, beside, 1)}, r, disk)
			rings, parents = append(rings, one), append(parents, p)
		}
		tells(t, fill.Packed, rings, r, sorted(t, []api.Cell{elder}))
		tells(t, fill.Packed, rings[:6], r, sorted(t, parents[:6]))
		tells(t, fill.Packed, rings[1:], r, sorted(t, parents[1:]))
	}
	tells(t, fill.Packed, []ring{{{1, 1}, {2, 1}, {1, 2}}}, 12, nil)
}

// 11.1: of size 0 there is nothing to pack.
func TestPackedOfTheCoarsest(t *testing.T) {
	c, _ := cell.Of(1<<29, 1<<29, 0)
	rings := []ring{hexagon(t, c, 3)}
	want, _ := near.Disk(word(t, c), 3)
	tells(t, fill.Packed, rings, 0, want)
}
