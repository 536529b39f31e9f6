package plane

import (
	"apiary/api"
	"apiary/eisen"
)

// ways lead from a centre to its corners, in thirds of a step, each a sixth of a turn on from the one ahead of it.
var ways = [6]api.E{{A: 1, B: 1}, {A: -1, B: 2}, {A: -2, B: 1}, {A: -1, B: -1}, {A: 1, B: -2}, {A: 2, B: -1}}

// centre is the number z of a lattice whose 1 is step in the finest one. Both are so small that nothing that is reckoned of them comes near 64 bits.
type centre struct{ z, step api.E }

func centreOf(z api.E, r int) (centre, bool) {
	step, ok := stepOf(r)
	if !ok || !within(z.A) || !within(z.B) {
		return centre{}, false
	}
	return centre{z, step}, true
}

func within(n int64) bool { return -maxPart <= n && n <= maxPart }

// place tells where a number of the finest lattice lies.
func place(at api.E) (x, y int64) {
	return alongX*at.A + aside*at.B, upY * at.B
}

func (c centre) middle() (x, y int64) {
	at, _ := eisen.Mul(c.step, c.z)
	return place(at)
}

// corner tells where the corner lies to which way leads, in thirds: a corner itself is seldom at a whole place.
func (c centre) corner(way api.E) [2]int64 {
	thrice, _ := eisen.Mul(c.z, api.E{A: 3})
	off, _ := eisen.Add(thrice, way)
	at, _ := eisen.Mul(c.step, off)
	x, y := place(at)
	return [2]int64{x, y}
}

// around tells the corners that corner makes of all ways.
func around(corner func(way api.E) [2]int64) [][2]int64 {
	ring := make([][2]int64, len(ways))
	for i, way := range ways {
		ring[i] = corner(way)
	}
	return ring
}

// Centre tells where the centre of z of r lies.
func Centre(z api.E, r int) (x, y int64, ok bool) {
	c, ok := centreOf(z, r)
	if !ok {
		return 0, 0, false
	}
	x, y = c.middle()
	return x, y, true
}

// Hex tells the six corners of what is nearest to z of r, in thirds.
func Hex(z api.E, r int) ([][2]int64, bool) {
	c, ok := centreOf(z, r)
	if !ok {
		return nil, false
	}
	return around(c.corner), true
}
