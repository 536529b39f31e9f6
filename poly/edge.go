package poly

import "iter"

// corners is a ring: behind the last one comes the first.
type corners [][2]int64

// edge is the straight way from a corner to the next one.
type edge struct{ from, to [2]int64 }

// edges goes through the edges of a ring.
func (c corners) edges(visit func(edge) bool) {
	for i, from := range c {
		if !visit(edge{from, c[(i+1)%len(c)]}) {
			return
		}
	}
}

// edgesOf goes through the edges of one ring behind the other.
func edgesOf(rings [][][2]int64) iter.Seq[edge] {
	return func(visit func(edge) bool) {
		for _, ring := range rings {
			for e := range corners(ring).edges {
				if !visit(e) {
					return
				}
			}
		}
	}
}

// turn tells twice the area of the triangle of an edge and a point: above 0 on its one side (left, if x is to the right and y up), 0 on its line, below 0 on the other. Corners are below 2^30 and points at most 2^31 off, so that no product is above 3 times 2^60: nothing wraps.
func (e edge) turn(p [2]int64) int64 {
	return (e.to[0]-e.from[0])*(p[1]-e.from[1]) - (e.to[1]-e.from[1])*(p[0]-e.from[0])
}

// holds tells if a point lies on the edge, its ends too.
func (e edge) holds(p [2]int64) bool {
	for axis, n := range p {
		if n < min(e.from[axis], e.to[axis]) || n > max(e.from[axis], e.to[axis]) {
			return false
		}
	}
	return e.turn(p) == 0
}

// isRightOf tells if the edge crosses the row of a point right of it. A corner on the row counts as below it, so that a ring that turns back there crosses the row twice or not at all.
func (e edge) isRightOf(p [2]int64) bool {
	if e.from[1] > e.to[1] {
		e.from, e.to = e.to, e.from
	}
	return e.from[1] <= p[1] && p[1] < e.to[1] && e.turn(p) > 0
}
