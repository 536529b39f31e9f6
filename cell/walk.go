package cell

import (
	"apiary/api"
	"apiary/eisen"
	"apiary/num"
)

// family is how many children a cell has; it is the Norm of Beta.
const family = 7

// digits are told by what A less 2 B leaves by seven. Beta is 2 and h, so that h counts as -2 in what Beta leaves, and each of the seven leaves another number.
var digits = [family]int{0, 1, 5, 6, 3, 2, 4}

// part tells what a child's number has beside Beta times its parent's.
func part(digit int) api.E {
	if digit == 0 {
		return api.E{}
	}
	return eisen.Unit(digit - 1)
}

// child tells the number of the child of z with a digit.
func child(z api.E, digit int) api.E {
	beta, _ := eisen.Beta(1)
	at, _ := eisen.Mul(beta, z)
	at, _ = eisen.Add(at, part(digit))
	return at
}

// split tells the parent's number of z and the digit that z has there. The parts of z are at most 2^30, and nothing here comes near 64 bits.
func split(z api.E) (parent api.E, digit int) {
	_, rest, _ := num.Floor(z.A-2*z.B, family)
	digit = digits[rest]
	at, _ := eisen.Sub(z, part(digit))
	// Divided by Beta is times its Conj and divided by its Norm; nothing is left of it.
	beta, _ := eisen.Beta(1)
	mirrored, _ := eisen.Conj(beta)
	at, _ = eisen.Mul(at, mirrored)
	return api.E{A: at.A / family, B: at.B / family}, digit
}

// walker stands at a cell and walks up from it.
type walker struct{ at api.Cell }

func (w *walker) up() {
	parent, _ := split(w.at.Z)
	w.at = api.Cell{R: w.at.R - 1, Z: parent}
}

// repeat takes a step several times.
func repeat(times int, step func()) {
	for range times {
		step()
	}
}

// raised tells what is above c at r, which is none of the sizes below its own.
func raised(c api.Cell, r int) api.Cell {
	w := walker{at: c}
	repeat(c.R-r, w.up)
	return w.at
}
