// Package num reckons with whole numbers of 64 bits with a sign that do not wrap.
package num

import (
	"math"
	"math/bits"
	"strconv"
)

// pair is two numbers to be reckoned with. Its methods tell a number that may have wrapped, and whether it did not.
type pair struct{ a, b int64 }

// run is a number and how often something is done with it. Its methods tell as those of pair do.
type run struct {
	a int64
	k int
}

// digits is a text that may be a number.
type digits string

// whole hands on what is reckoned, but for a number that wrapped: nobody is to see that one.
func whole(reckon func() (int64, bool)) (int64, bool) {
	n, ok := reckon()
	if !ok {
		return 0, false
	}
	return n, true
}

func (p pair) sum() (int64, bool) {
	n := p.a + p.b
	return n, (n > p.a) == (p.b > 0)
}

func (p pair) difference() (int64, bool) {
	n := p.a - p.b
	return n, (n < p.a) == (p.b > 0)
}

func (p pair) product() (int64, bool) {
	n := p.a * p.b
	switch p.a {
	case 0:
		return 0, true
	case -1:
		// Dividing back would wrap as the product did, and hide it.
		return n, p.b != math.MinInt64
	}
	return n, n/p.a == p.b
}

func (r run) shifted() (int64, bool) {
	if r.k < 0 {
		return 0, false
	}
	n := r.a << r.k
	return n, n>>r.k == r.a
}

// power goes from the highest bit of k down, so that a great k costs few steps, and nothing on the way is greater than the power.
func (r run) power() (int64, bool) {
	n, ok := int64(1), r.k >= 0
	for i := bits.Len(uint(r.k)) - 1; ok && i >= 0; i-- {
		n, ok = Mul(n, n)
		if ok && r.k>>i&1 == 1 {
			n, ok = Mul(n, r.a)
		}
	}
	return n, ok
}

// number takes a text only if it is written as Text would: strconv alone takes a plus and noughts ahead too.
func (d digits) number() (int64, bool) {
	n, err := strconv.ParseInt(string(d), 10, 64)
	return n, err == nil && Text(n) == string(d)
}

// Add tells a and b.
func Add(a, b int64) (int64, bool) {
	return whole(pair{a, b}.sum)
}

// Sub tells a less b.
func Sub(a, b int64) (int64, bool) {
	return whole(pair{a, b}.difference)
}

// Mul tells a times b.
func Mul(a, b int64) (int64, bool) {
	return whole(pair{a, b}.product)
}

// Neg tells 0 less a.
func Neg(a int64) (int64, bool) {
	return whole(pair{0, a}.difference)
}

// Shl tells a times 2^k.
func Shl(a int64, k int) (int64, bool) {
	return whole(run{a, k}.shifted)
}

// Floor parts a into q times b and r, with r from 0 to below b.
func Floor(a, b int64) (q, r int64, ok bool) {
	if b <= 0 {
		return 0, 0, false
	}
	q, r = a/b, a%b
	if r < 0 {
		q, r = q-1, r+b
	}
	return q, r, true
}

// Pow tells a, k times with itself.
func Pow(a int64, k int) (int64, bool) {
	return whole(run{a, k}.power)
}

// Text writes n in digits.
func Text(n int64) string {
	return strconv.FormatInt(n, 10)
}

// Parse reads what Text writes.
func Parse(s string) (int64, bool) {
	return whole(digits(s).number)
}
