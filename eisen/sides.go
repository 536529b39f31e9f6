package eisen

import (
	"apiary/api"
	"apiary/num"
)

// span is an E as the way from 0 to it. It has three sides, one along each line of the lattice.
type span api.E

func (s span) alongA() (int64, bool) { return s.A, true }

func (s span) alongB() (int64, bool) { return s.B, true }

func (s span) alongBoth() (int64, bool) { return num.Add(s.A, s.B) }

// Steps tells how many Units lead to a.
func Steps(a api.E) (int64, bool) {
	most := int64(0)
	for _, side := range [3]func(span) (int64, bool){span.alongA, span.alongB, span.alongBoth} {
		n, ok := side(span(a))
		if ok && n < 0 {
			n, ok = num.Neg(n)
		}
		if !ok {
			return 0, false
		}
		most = max(most, n)
	}
	return most, true
}

// rest is what division by d leaves: a and b are from 0 to below d. The four numbers round about a rest are 0, d, d times h, and the sum of these two; the nearest of all is one of them.
type rest struct{ a, b, d int64 }

// The next four tell, of each number round about, by how much its distance squared is greater than that of 0, divided by d: so nothing is squared, and all is far below 64 bits.

func (r rest) toNone() int64 { return 0 }

func (r rest) toH() int64 { return r.d - r.a - 2*r.b }

func (r rest) toOne() int64 { return r.d - 2*r.a - r.b }

func (r rest) toBoth() int64 { return 3 * (r.d - r.a - r.b) }

// nearest tells 0 or 1 of each part of the number that is nearest. The order of the sides, by least A and then least B, settles what is equally near.
func (r rest) nearest() (a, b int64) {
	best, least := 0, r.toNone()
	for i, side := range [4]func(rest) int64{rest.toNone, rest.toH, rest.toOne, rest.toBoth} {
		if far := side(r); far < least {
			best, least = i, far
		}
	}
	return int64(best / 2), int64(best % 2)
}

func within(n, low, high int64) bool { return low <= n && n <= high }

// Round tells the number that is nearest to u divided by d.
func Round(u api.E, d int64) (api.E, bool) {
	if !within(d, 1, maxDivisor) || !within(u.A, -maxPart, maxPart) || !within(u.B, -maxPart, maxPart) {
		return api.E{}, false
	}
	a, restA, _ := num.Floor(u.A, d)
	b, restB, _ := num.Floor(u.B, d)
	moreA, moreB := rest{restA, restB, d}.nearest()
	return api.E{A: a + moreA, B: b + moreB}, true
}
