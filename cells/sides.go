package cells

import (
	"math"

	"apiary/api"
)

// sides tells in which of two sets a word is.
type sides struct{ inA, inB bool }

func (s sides) either() bool { return s.inA || s.inB }

func (s sides) both() bool { return s.inA && s.inB }

func (s sides) aAlone() bool { return s.inA && !s.inB }

// pair is what is left of two sets that are gone through side by side.
type pair struct{ a, b []uint64 }

func (p pair) isEmpty() bool { return len(p.a) == 0 && len(p.b) == 0 }

// least tells the least word that is left of a pair that is not empty.
func (p pair) least() uint64 {
	least := uint64(math.MaxUint64)
	for _, set := range [2][]uint64{p.a, p.b} {
		if len(set) > 0 {
			least = min(least, set[0])
		}
	}
	return least
}

// next takes the least word off both sides, and tells on which of them it was.
func (p *pair) next() (uint64, sides) {
	w := p.least()
	in := sides{inA: begins(p.a, w), inB: begins(p.b, w)}
	if in.inA {
		p.a = p.a[1:]
	}
	if in.inB {
		p.b = p.b[1:]
	}
	return w, in
}

func begins(set []uint64, w uint64) bool { return len(set) > 0 && set[0] == w }

// choose tells the words of two lists that are kept for the sides they are on.
func choose(a, b []uint64, keep func(sides) bool) ([]uint64, api.Errno) {
	if len(a) > api.MaxCells || len(b) > api.MaxCells {
		return nil, api.ErrMany
	}
	var kept []uint64
	left := pair{Set(a), Set(b)}
	for !left.isEmpty() {
		if w, in := left.next(); keep(in) {
			kept = append(kept, w)
		}
	}
	if len(kept) > api.MaxCells {
		return nil, api.ErrMany
	}
	return kept, api.OK
}
