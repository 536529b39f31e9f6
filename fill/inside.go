package fill

import (
	"slices"

	"apiary/ident"
	"apiary/near"
	"apiary/plane"
	"apiary/poly"
)

// ways is how many neighbours a cell has, but for those at the rim of all cells.
const ways = 6

// keep tells the words of l that are asked for, in its order.
func keep(l []uint64, isAskedFor func(w uint64) bool) []uint64 {
	var kept []uint64
	for _, w := range l {
		if isAskedFor(w) {
			kept = append(kept, w)
		}
	}
	return kept
}

// polygon is rings that poly.Check takes.
type polygon [][][2]int64

// holds tells if the centre of a word's cell lies inside. What cover.Centres tells is words: neither call can fail.
func (p polygon) holds(w uint64) bool {
	c, _ := ident.Cell(w)
	x, y, _ := plane.Centre(c.Z, c.R)
	return poly.Inside(p, x, y)
}

// area is words of one size, rising.
type area []uint64

func (a area) lacks(w uint64) bool {
	_, has := slices.BinarySearch(a, w)
	return !has
}

// isOpenAt tells if a word of the area has not six neighbours in it.
func (a area) isOpenAt(w uint64) bool {
	around, _ := near.Neighbours(w)
	return len(around) < ways || slices.ContainsFunc(around, a.lacks)
}
