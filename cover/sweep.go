package cover

import (
	"cmp"
	"container/heap"

	"apiary/api"
	"apiary/eisen"
	"apiary/plane"
)

// The axes along which a box is swept.
const (
	alongX = iota
	alongY
)

// ways is how many neighbours a number has.
const ways = 6

// centre tells where the centre of a small number of r lies.
func centre(z api.E, r int) [2]int64 {
	x, y, _ := plane.Centre(z, r)
	return [2]int64{x, y}
}

// neighbour tells the number that lies one way of z. What is looked at lies in the world or just beside it: it cannot fail.
func neighbour(z api.E, way int) api.E {
	next, _ := eisen.Add(z, eisen.Unit(way))
	return next
}

// around tells the numbers of r among which those are whose hexagons hold a point: hexagons with a common point are neighbours.
func around(p [2]int64, r int) []api.E {
	z, _ := plane.Near(p[0], p[1], r)
	l := []api.E{z}
	for way := range ways {
		l = append(l, neighbour(z, way))
	}
	return l
}

// spot is a number, and how far on along an axis its centre lies.
type spot struct {
	at int64
	z  api.E
}

func compare(s, t spot) int {
	return cmp.Or(cmp.Compare(s.at, t.at), cmp.Compare(s.z.A, t.z.A), cmp.Compare(s.z.B, t.z.B))
}

// frontier is a heap of spots with the least first. All that are the same come one behind the other.
type frontier []spot

// Len, Less, Swap, Push and Pop are what package heap asks for.
func (f frontier) Len() int { return len(f) }

func (f frontier) Less(i, j int) bool { return compare(f[i], f[j]) < 0 }

func (f frontier) Swap(i, j int) { f[i], f[j] = f[j], f[i] }

func (f *frontier) Push(s any) { *f = append(*f, s.(spot)) }

func (f *frontier) Pop() any {
	end := len(*f) - 1
	s := (*f)[end]
	*f = (*f)[:end]
	return s
}

// next takes the first spot off, as often as it is there.
func (f *frontier) next() spot {
	s := heap.Pop(f).(spot)
	for len(*f) > 0 && (*f)[0] == s {
		heap.Pop(f)
	}
	return s
}

// numbers goes through the spots until there are none, each once. What is put in meanwhile comes too: it must lie farther on.
func (f *frontier) numbers(visit func(z api.E) bool) {
	for len(*f) > 0 {
		if !visit(f.next().z) {
			return
		}
	}
}

// sweep goes over a box along an axis, from hexagon to hexagon. From a point of a hexagon and the box, go back along the axis: either the way ends in this hexagon at the side where the box begins, or it leads into a neighbour whose centre lies farther back. So each hexagon that touches the box is come to from one that touches that side, over ones that touch the box and lie farther and farther on.
type sweep struct {
	area    box
	r, axis int
	// onward is the ways to the three neighbours, or two, that lie farther on.
	onward []int
	ahead  frontier
}

func newSweep(area box, r, axis int) *sweep {
	s := &sweep{area: area, r: r, axis: axis}
	for way := range ways {
		if s.place(eisen.Unit(way)) > 0 {
			s.onward = append(s.onward, way)
		}
	}
	return s
}

// place tells how far on the centre of z lies.
func (s *sweep) place(z api.E) int64 { return centre(z, s.r)[s.axis] }

func (s *sweep) put(z api.E) { heap.Push(&s.ahead, spot{s.place(z), z}) }

// from tells the numbers of all cells that touch the box, if first has those of them that touch the side where it begins. It ends when there are too many.
func (s *sweep) from(first []api.E) []api.E {
	for _, z := range first {
		s.put(z)
	}
	var found []api.E
	for z := range s.ahead.numbers {
		if !Touches(api.Cell{R: s.r, Z: z}, s.area.lo, s.area.hi) {
			continue
		}
		found = append(found, z)
		if len(found) > api.MaxCells {
			break
		}
		for _, way := range s.onward {
			s.put(neighbour(z, way))
		}
	}
	return found
}
