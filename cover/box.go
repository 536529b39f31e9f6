package cover

import (
	"slices"

	"apiary/api"
	"apiary/plane"
)

// box is all points from lo to hi, borders too.
type box struct{ lo, hi [2]int64 }

func (b box) holds(p [2]int64) bool {
	return b.lo[0] <= p[0] && p[0] <= b.hi[0] && b.lo[1] <= p[1] && p[1] <= b.hi[1]
}

func (b box) isTurned() bool { return b.hi[0] < b.lo[0] || b.hi[1] < b.lo[1] }

func (b box) isNear() bool {
	near := box{[2]int64{-maxPart, -maxPart}, [2]int64{maxPart, maxPart}}
	return near.holds(b.lo) && near.holds(b.hi)
}

// edge leads from a corner some way round its outline, which lies left of it.
type edge struct{ from, way [2]int64 }

// outline is the edges of something without a dent, one behind the other.
type outline []edge

// keeps tells if the corner from which another edge leads lies left of the line of this one, or on it. Corners of Ok cells are below 2^34 and those of boxes below 2^33, ways below 2^24: nothing comes near 64 bits.
func (e edge) keeps(other edge) bool {
	off := [2]int64{other.from[0] - e.from[0], other.from[1] - e.from[1]}
	return e.way[0]*off[1] >= e.way[1]*off[0]
}

// leavesOut tells if one of the edges keeps no corner of another outline.
func (o outline) leavesOut(other outline) bool {
	for _, e := range o {
		if !slices.ContainsFunc(other, e.keeps) {
			return true
		}
	}
	return false
}

// sides tells the outline of a box, in thirds as plane.Hex tells corners. Each way is 1 long, so that a side without any length leads somewhere too, and a long one does not make numbers wrap.
func (b box) sides() outline {
	left, low, right, high := 3*b.lo[0], 3*b.lo[1], 3*b.hi[0], 3*b.hi[1]
	return outline{
		{[2]int64{left, low}, [2]int64{1, 0}},
		{[2]int64{right, low}, [2]int64{0, 1}},
		{[2]int64{right, high}, [2]int64{-1, 0}},
		{[2]int64{left, high}, [2]int64{0, -1}},
	}
}

// hexagonOf tells the outline of an Ok cell.
func hexagonOf(c api.Cell) outline {
	corners, _ := plane.Hex(c.Z, c.R)
	var hexagon outline
	for i, p := range corners {
		q := corners[(i+1)%len(corners)]
		hexagon = append(hexagon, edge{p, [2]int64{q[0] - p[0], q[1] - p[1]}})
	}
	return hexagon
}
