package near

import (
	"apiary/api"
	"apiary/eisen"
	"apiary/ident"
)

const (
	// ways is how many neighbours a cell has, and how many sides a ring.
	ways = 6
	// outward is the way to that corner of each ring from which the ways, from the first one on, lead round about it.
	outward = 4
)

// walker goes from cell to cell of one size, over such as are not Ok too, and takes words along.
type walker struct {
	at    api.Cell
	words []uint64
}

// step goes on to a neighbour. An Ok cell has so small parts that the steps of no ring lead anywhere near the ends of 64 bits.
func (w *walker) step(way int) {
	w.at.Z, _ = eisen.Add(w.at.Z, eisen.Unit(way))
}

// stepAndTake goes on to a neighbour and takes its word along.
func (w *walker) stepAndTake(way int) {
	w.step(way)
	w.take()
}

// take takes along the word of the cell, if it has one.
func (w *walker) take() {
	if word, err := ident.Of(w.at); err == api.OK {
		w.words = append(w.words, word)
	}
}

// round takes along a ring of k, from its outward corner until it is there again.
func (w *walker) round(k int) {
	if k == 0 {
		w.take()
		return
	}
	for way := range ways {
		repeat(k, way, w.stepAndTake)
	}
}

// repeat takes a step several times one way.
func repeat(times, way int, step func(way int)) {
	for range times {
		step(way)
	}
}

// pair is two cells of one size, and how many steps are between them.
type pair struct {
	from, to api.Cell
	steps    int64
}

// pairOf tells the cells of two words.
func pairOf(a, b uint64) (pair, api.Errno) {
	from, err := ident.Cell(a)
	if err != api.OK {
		return pair{}, err
	}
	to, err := ident.Cell(b)
	if err != api.OK {
		return pair{}, err
	}
	if from.R != to.R {
		return pair{}, api.ErrRes
	}
	// Parts of Ok cells are at most 2^30 either way: neither call can fail.
	apart, _ := eisen.Sub(to.Z, from.Z)
	steps, _ := eisen.Steps(apart)
	return pair{from, to, steps}, api.OK
}

// part tells the number nearest to what lies i of all steps along the way. With no more steps than a line may have, all is within the bounds of Round.
func (p pair) part(i int64) api.E {
	if p.steps == 0 {
		return p.from.Z
	}
	begun := api.E{A: p.from.Z.A * (p.steps - i), B: p.from.Z.B * (p.steps - i)}
	done := api.E{A: p.to.Z.A * i, B: p.to.Z.B * i}
	both, _ := eisen.Add(begun, done)
	z, _ := eisen.Round(both, p.steps)
	return z
}
