package eisen

import "math/bits"

// wide is a whole number of 128 bits with a sign: high times 2^64 and low.
type wide struct{ high, low uint64 }

// product tells a times b, which 128 bits always hold.
func product(a, b int64) wide {
	high, low := bits.Mul64(uint64(a), uint64(b))
	// Mul64 takes a number below 0 for one that is greater by 2^64.
	if a < 0 {
		high -= uint64(b)
	}
	if b < 0 {
		high -= uint64(a)
	}
	return wide{high, low}
}

func (w wide) plus(v wide) wide {
	low, carry := bits.Add64(w.low, v.low, 0)
	high, _ := bits.Add64(w.high, v.high, carry)
	return wide{high, low}
}

func (w wide) minus(v wide) wide {
	low, borrow := bits.Sub64(w.low, v.low, 0)
	high, _ := bits.Sub64(w.high, v.high, borrow)
	return wide{high, low}
}

// narrow tells w, if it is one of 64 bits. Three products at most make up a w: their sum may be 3 times 2^126 and wrap, but what it wraps to is none of 64 bits either.
func (w wide) narrow() (int64, bool) {
	n := int64(w.low)
	if w.high != uint64(n>>63) {
		return 0, false
	}
	return n, true
}
