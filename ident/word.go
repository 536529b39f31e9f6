package ident

import (
	"apiary/api"
	"apiary/cell"
)

// How many bits lie behind each part of a word, and how wide the parts are.
const (
	markAt = 60
	sizeAt = 56
	aAt    = 46
	bAt    = 36

	markBits  = 4
	sizeBits  = 4
	baseBits  = 10
	digitBits = 3
)

const (
	mark   = 1
	finest = 12
	// baseShift makes the least part of a base 0: a word's parts have no sign.
	baseShift = 512
	// noDigit stands where a cell has no digit: at the sizes finer than its own.
	noDigit = 7
)

// word is 64 bits that are read by their parts, be they those of a cell or not.
type word uint64

// blank tells the word of a cell of r below a base, without its digits.
func blank(r int, base api.E) word {
	head := word(mark)<<markAt | word(r)<<sizeAt
	return head | word(base.A+baseShift)<<aAt | word(base.B+baseShift)<<bAt | (1<<bAt - 1)
}

// digitAt tells how many bits lie behind the digit of r.
func digitAt(r int) int { return digitBits * (finest - r) }

// part tells the number in some bits of w.
func (w word) part(at, bits int) int64 { return int64(w >> at & (1<<bits - 1)) }

func (w word) size() int { return int(w.part(sizeAt, sizeBits)) }

// base tells the cell of size 0 that w is below. Each number that its parts can be is one that a base may have.
func (w word) base() api.Cell {
	return api.Cell{Z: api.E{A: w.part(aAt, baseBits) - baseShift, B: w.part(bAt, baseBits) - baseShift}}
}

// with tells w with another digit of r.
func (w word) with(r, digit int) word {
	return w&^(noDigit<<digitAt(r)) | word(digit)<<digitAt(r)
}

// raised tells the word above w, which is not of size 0: what is above has all digits but the last one.
func (w word) raised() word {
	return w.with(w.size(), noDigit) - 1<<sizeAt
}

// digits goes through all twelve digits of w, the coarsest first.
func (w word) digits(visit func(r, digit int) bool) {
	for r := 1; r <= finest; r++ {
		if !visit(r, int(w.part(digitAt(r), digitBits))) {
			return
		}
	}
}

// isWhole tells if w is some cell's: if it has digits up to its size, and none behind it.
func (w word) isWhole() bool {
	if w.part(markAt, markBits) != mark || w.size() > finest {
		return false
	}
	for r, digit := range w.digits {
		if (digit == noDigit) != (r > w.size()) {
			return false
		}
	}
	return true
}

// line is a cell as the last one of those that it belongs to.
type line api.Cell

// digits goes through the digits of all on the line that have one, the finest first.
func (l line) digits(visit func(r, digit int) bool) {
	for at := api.Cell(l); at.R > 0; at, _ = cell.Parent(at) {
		if !visit(at.R, cell.Digit(at)) {
			return
		}
	}
}
