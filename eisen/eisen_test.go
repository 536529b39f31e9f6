package eisen_test

import (
	"math"
	"math/big"
	"testing"

	"apiary/api"
	"apiary/eisen"
)

const (
	hi = math.MaxInt64
	lo = math.MinInt64
)

func e(a, b int64) api.E { return api.E{A: a, B: b} }

// exact is an E whose parts are as great as they have to be.
type exact struct{ a, b *big.Int }

func of(z api.E) exact { return exact{big.NewInt(z.A), big.NewInt(z.B)} }

func plus(x, y *big.Int) *big.Int { return new(big.Int).Add(x, y) }

func less(x, y *big.Int) *big.Int { return new(big.Int).Sub(x, y) }

func times(x, y *big.Int) *big.Int { return new(big.Int).Mul(x, y) }

// mul parts x times y by h: (a + bh)(c + dh) is ac, (ad + bc)h and bd hh, and hh is h less 1.
func (x exact) mul(y exact) exact {
	hh := times(x.b, y.b)
	h := plus(times(x.a, y.b), times(x.b, y.a))
	return exact{less(times(x.a, y.a), hh), plus(h, hh)}
}

func (x exact) norm() *big.Int {
	return plus(plus(times(x.a, x.a), times(x.a, x.b)), times(x.b, x.b))
}

// parts is numbers of which one part or the other is at an end, at a root of an end, at a power of two, or small.
func parts() []int64 {
	return []int64{
		lo, lo + 1, -1 << 62, -3 << 61, -3037000500, -3037000499, -1 << 32, -1 << 31, -12345, -3, -2, -1,
		0, 1, 2, 3, 7, 99991, 1 << 31, 1<<31 + 1, 1 << 32, 3037000499, 3037000500, 1 << 40, 1 << 61, 1 << 62, hi - 1, hi,
	}
}

func points() []api.E {
	var l []api.E
	for _, a := range parts() {
		for _, b := range parts() {
			l = append(l, e(a, b))
		}
	}
	return l
}

// spread is n numbers of all lengths, the same ones each time.
func spread(n int) []int64 {
	var l []int64
	s := uint64(1)
	for range n {
		s = s*6364136223846793005 + 1442695040888963407
		l = append(l, int64(s)>>(s>>7%64))
	}
	return l
}

// agree fails if z and ok are not what the exact number asks for: itself, if its parts are of 64 bits, and zeros and false else.
func agree(t *testing.T, x exact, z api.E, ok bool, call string, with ...any) {
	t.Helper()
	want, holds := api.E{}, x.a.IsInt64() && x.b.IsInt64()
	if holds {
		want = e(x.a.Int64(), x.b.Int64())
	}
	if z != want || ok != holds {
		t.Fatal(call, with, "told", z, ok, "and is", x.a, x.b)
	}
}

// one fails as agree does, of a single number.
func one(t *testing.T, x *big.Int, n int64, ok bool, call string, with ...any) {
	t.Helper()
	agree(t, exact{x, new(big.Int)}, e(n, 0), ok, call, with...)
}

// pairs checks the calls with two arguments.
func pairs(t *testing.T, a, b api.E) {
	t.Helper()
	x, y := of(a), of(b)
	z, ok := eisen.Add(a, b)
	agree(t, exact{plus(x.a, y.a), plus(x.b, y.b)}, z, ok, "Add", a, b)
	z, ok = eisen.Sub(a, b)
	agree(t, exact{less(x.a, y.a), less(x.b, y.b)}, z, ok, "Sub", a, b)
	z, ok = eisen.Mul(a, b)
	agree(t, x.mul(y), z, ok, "Mul", a, b)
}

// 2.1: Add, Sub and Mul tell the exact number, or false.
func TestPairsAreExact(t *testing.T) {
	l := points()
	for i, a := range l {
		for j := i % 7; j < len(l); j += 7 {
			pairs(t, a, l[j])
		}
	}
	s := spread(40000)
	for i := 0; i < len(s); i += 4 {
		pairs(t, e(s[i], s[i+1]), e(s[i+2], s[i+3]))
	}
}

// 2.1: Conj and Norm tell the exact number, or false.
func TestSinglesAreExact(t *testing.T) {
	l := points()
	s := spread(40000)
	for i := 0; i < len(s); i += 2 {
		l = append(l, e(s[i], s[i+1]))
	}
	for _, a := range l {
		x := of(a)
		z, ok := eisen.Conj(a)
		agree(t, exact{plus(x.a, x.b), new(big.Int).Neg(x.b)}, z, ok, "Conj", a)
		n, ok := eisen.Norm(a)
		one(t, x.norm(), n, ok, "Norm", a)
	}
}

// 2.1: what is in between may be none of 64 bits, if the answer is one; an answer that would wrap to one of 64 bits is refused.
func TestBetweenMayBeAny(t *testing.T) {
	for _, x := range []struct {
		a, b, want api.E
		ok         bool
	}{
		{e(2, 1), e(3, -1), e(7, 0), true},
		{e(0, 1), e(0, 1), e(-1, 1), true},
		{e(1<<40, 1<<40), e(1<<40, -1<<40), e(0, 0), false},
		{e(1<<32, -1<<32), e(-1<<31, 1<<31), e(0, 0), false},
		{e(-1<<32, 1<<32), e(-1<<31, 1<<31), e(0, lo), true},
		{e(1<<32, 0), e(1<<32, 0), e(0, 0), false},
		{e(lo, lo), e(lo, lo), e(0, 0), false},
		{e(hi, hi), e(hi, hi), e(0, 0), false},
		{e(lo, 0), e(-1, 0), e(0, 0), false},
		{e(lo, hi), e(1, 0), e(lo, hi), true},
	} {
		want := x.want
		if !x.ok {
			want = api.E{}
		}
		for range 2 {
			if z, ok := eisen.Mul(x.a, x.b); z != want || ok != x.ok {
				t.Error("Mul", x.a, x.b, "told", z, ok)
			}
			x.a, x.b = x.b, x.a
		}
	}
	// A A alone is none of 64 bits; the Norm is.
	if n, ok := eisen.Norm(e(3500000000, -1750000000)); n != 9187500000000000000 || !ok {
		t.Error(n, ok)
	}
	if n, ok := eisen.Norm(e(1<<32, 0)); n != 0 || ok {
		t.Error(n, ok)
	}
}

// 2.1: Unit goes round about 0, of each k.
func TestUnit(t *testing.T) {
	round := []api.E{e(1, 0), e(0, 1), e(-1, 1), e(-1, 0), e(0, -1), e(1, -1)}
	for k := -60; k <= 60; k++ {
		if z := eisen.Unit(k); z != round[(k+60)%6] {
			t.Error(k, z)
		}
	}
	// 2^62 is 4 more than sixes, so 2^63 is 2 more.
	for k, at := range map[int]int{math.MaxInt: 1, math.MaxInt - 1: 0, math.MinInt: 4, math.MinInt + 1: 5, 1 << 62: 4} {
		if z := eisen.Unit(k); z != round[at] {
			t.Error(k, z)
		}
	}
	for k := range 6 {
		if z, ok := eisen.Mul(eisen.Unit(k), e(0, 1)); z != eisen.Unit(k+1) || !ok {
			t.Error("Unit", k, "turned is", z, ok)
		}
	}
}

// 2.1: Beta tells powers of (2, 1) up to the twentieth, and refuses another k.
func TestBeta(t *testing.T) {
	power := of(e(1, 0))
	for k := range 21 {
		z, ok := eisen.Beta(k)
		agree(t, power, z, ok, "Beta", k)
		power = power.mul(of(e(2, 1)))
	}
	if z, _ := eisen.Beta(2); z != e(3, 5) {
		t.Error(z)
	}
	for _, k := range []int{-1, 21, 22, -20, math.MinInt, math.MaxInt, 1 << 32} {
		if z, ok := eisen.Beta(k); z != e(0, 0) || ok {
			t.Error(k, z, ok)
		}
	}
}

// 2.2: Steps tells the greatest size of A, B and A + B, or false if a size or A + B is none of 64 bits.
func TestStepsIsExact(t *testing.T) {
	for _, a := range points() {
		x := of(a)
		most, holds := new(big.Int), true
		for _, side := range []*big.Int{x.a, x.b, plus(x.a, x.b)} {
			size := new(big.Int).Abs(side)
			holds = holds && side.IsInt64() && size.IsInt64()
			if size.Cmp(most) > 0 {
				most = size
			}
		}
		n, ok := eisen.Steps(a)
		if ok != holds || !ok && n != 0 || ok && n != most.Int64() {
			t.Fatal("Steps", a, "told", n, ok, "and is", most, holds)
		}
	}
	for a, want := range map[api.E]int64{e(3, -1): 3, e(3, 2): 5, e(-3, 2): 3, e(-2, -2): 4, e(0, -7): 7, e(0, 0): 0} {
		if n, ok := eisen.Steps(a); n != want || !ok {
			t.Error(a, n, ok)
		}
	}
	for _, a := range []api.E{e(hi, 1), e(1, hi), e(lo, 0), e(0, lo), e(lo, hi), e(hi, lo), e(-1<<62, -1<<62), e(lo, lo)} {
		if n, ok := eisen.Steps(a); n != 0 || ok {
			t.Error(a, n, ok)
		}
	}
}

// 2.2: Steps is how many Units lead to a number, and no fewer do.
func TestStepsCountsUnits(t *testing.T) {
	far := map[api.E]int64{{}: 0}
	last := []api.E{{}}
	for n := int64(0); n <= 8; n++ {
		var next []api.E
		for _, a := range last {
			if s, ok := eisen.Steps(a); s != n || !ok {
				t.Fatal(a, "is", n, "off and told", s, ok)
			}
			for k := range 6 {
				b, _ := eisen.Add(a, eisen.Unit(k))
				if _, seen := far[b]; !seen {
					far[b] = n + 1
					next = append(next, b)
				}
			}
		}
		last = next
	}
}
