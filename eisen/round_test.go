package eisen_test

import (
	"math"
	"math/big"
	"testing"

	"apiary/api"
	"apiary/eisen"
)

// nearest looks through all numbers about what is told, by rising A and then B, so that the first of several is the one that 2.2 asks for.
func nearest(u api.E, d int64, about api.E) api.E {
	var least *big.Int
	best := api.E{}
	for a := about.A - 3; a <= about.A+3; a++ {
		for b := about.B - 3; b <= about.B+3; b++ {
			z := exact{times(big.NewInt(a), big.NewInt(d)), times(big.NewInt(b), big.NewInt(d))}
			n := exact{less(big.NewInt(u.A), z.a), less(big.NewInt(u.B), z.b)}.norm()
			if least == nil || n.Cmp(least) < 0 {
				least, best = n, e(a, b)
			}
		}
	}
	return best
}

func rounds(t *testing.T, u api.E, d int64) {
	t.Helper()
	about := e(floor(u.A, d), floor(u.B, d))
	z, ok := eisen.Round(u, d)
	if want := nearest(u, d, about); z != want || !ok {
		t.Fatal("Round", u, d, "told", z, ok, "and is", want)
	}
}

func floor(a, b int64) int64 {
	q, _ := new(big.Int).DivMod(big.NewInt(a), big.NewInt(b), new(big.Int))
	return q.Int64()
}

// 2.2: Round tells the nearest number, of each place within small lattices.
func TestRoundNear(t *testing.T) {
	for d := int64(1); d <= 7; d++ {
		for a := -2*d - 1; a <= 2*d; a++ {
			for b := -2*d - 1; b <= 2*d; b++ {
				rounds(t, e(a, b), d)
			}
		}
	}
}

// 2.2: what is equally near: the least A, then the least B.
func TestRoundTies(t *testing.T) {
	for _, x := range []struct {
		u    api.E
		d    int64
		want api.E
	}{
		{e(1, 0), 2, e(0, 0)},
		{e(0, 1), 2, e(0, 0)},
		{e(1, 1), 2, e(0, 1)},
		{e(-1, 0), 2, e(-1, 0)},
		{e(0, -1), 2, e(0, -1)},
		{e(-1, -1), 2, e(-1, 0)},
		{e(1, -1), 2, e(0, 0)},
		{e(1, 1), 3, e(0, 0)},
		{e(2, 2), 3, e(0, 1)},
		{e(-1, -1), 3, e(-1, 0)},
		{e(-2, -2), 3, e(-1, -1)},
		{e(1<<49, 1<<49), 1 << 50, e(0, 1)},
	} {
		if z, ok := eisen.Round(x.u, x.d); z != x.want || !ok {
			t.Error("Round", x.u, x.d, "told", z, ok)
		}
	}
	// One off a tie there is none.
	for _, d := range []int64{1 << 50, 1<<50 - 1, 1<<50 - 2, 6, 1e15} {
		for a := int64(-1); a <= 1; a++ {
			for b := int64(-1); b <= 1; b++ {
				rounds(t, e(d/2+a, b), d)
				rounds(t, e(a, d/2+b), d)
				rounds(t, e(d/2+a, d/2+b), d)
				rounds(t, e(d/3+a, d/3+b), d)
				rounds(t, e(2*(d/3)+a, 2*(d/3)+b), d)
				rounds(t, e(a-d/3, b-d/3), d)
			}
		}
	}
}

// 2.2: Round takes what is at its bounds, and refuses what is beyond them.
func TestRoundBounds(t *testing.T) {
	ends := []int64{-1 << 60, -1<<60 + 1, -1 << 59, -1, 0, 1, 1<<59 + 12345, 1<<60 - 1, 1 << 60}
	for _, a := range ends {
		for _, b := range ends {
			for _, d := range []int64{1, 2, 3, 7, 1 << 20, 1e9 + 7, 1<<50 - 1, 1 << 50} {
				rounds(t, e(a, b), d)
			}
		}
	}
	for _, d := range []int64{0, -1, lo, 1<<50 + 1, hi} {
		if z, ok := eisen.Round(e(1, 1), d); z != e(0, 0) || ok {
			t.Error(d, z, ok)
		}
	}
	for _, n := range []int64{1<<60 + 1, -1<<60 - 1, hi, lo} {
		for _, u := range []api.E{e(n, 0), e(0, n), e(n, n), e(n, -1), e(1, n)} {
			if z, ok := eisen.Round(u, 5); z != e(0, 0) || ok {
				t.Error(u, z, ok)
			}
		}
	}
}

// 2.2: Round of numbers that are spread over all lengths.
func TestRoundSpread(t *testing.T) {
	s := spread(6000)
	for i := 0; i+2 < len(s); i += 3 {
		rounds(t, e(s[i]>>3, s[i+1]>>3), s[i+2]&(1<<(i%50+1)-1)+1)
	}
}

// small is numbers whose products of three are far from the ends.
func small() []api.E {
	var l []api.E
	for _, a := range []int64{-100003, -7, -2, -1, 0, 1, 2, 5, 99991} {
		for _, b := range []int64{-65536, -3, -1, 0, 1, 4, 31337} {
			l = append(l, e(a, b))
		}
	}
	return l
}

// sure takes what a call told, which must be true.
func sure(t *testing.T) func(api.E, bool) api.E {
	return func(z api.E, ok bool) api.E {
		t.Helper()
		if !ok {
			t.Fatal("refused")
		}
		return z
	}
}

// 2.3: the laws of a ring that has a one.
func TestRing(t *testing.T) {
	is := sure(t)
	for _, a := range small() {
		if is(eisen.Mul(a, e(1, 0))) != a || is(eisen.Add(a, e(0, 0))) != a || is(eisen.Mul(a, e(0, 0))) != e(0, 0) {
			t.Error(a)
		}
		if is(eisen.Add(a, is(eisen.Sub(e(0, 0), a)))) != e(0, 0) {
			t.Error(a)
		}
		for _, b := range small() {
			if is(eisen.Mul(a, b)) != is(eisen.Mul(b, a)) || is(eisen.Add(a, b)) != is(eisen.Add(b, a)) {
				t.Error(a, b)
			}
			if is(eisen.Sub(is(eisen.Add(a, b)), b)) != a {
				t.Error(a, b)
			}
			for _, c := range small() {
				if is(eisen.Mul(is(eisen.Mul(a, b)), c)) != is(eisen.Mul(a, is(eisen.Mul(b, c)))) {
					t.Fatal(a, b, c)
				}
				if is(eisen.Add(is(eisen.Add(a, b)), c)) != is(eisen.Add(a, is(eisen.Add(b, c)))) {
					t.Fatal(a, b, c)
				}
				if is(eisen.Mul(a, is(eisen.Add(b, c)))) != is(eisen.Add(is(eisen.Mul(a, b)), is(eisen.Mul(a, c)))) {
					t.Fatal(a, b, c)
				}
			}
		}
	}
}

// 2.3: the Norm of a product is the product of the Norms; a number times its Conj is its Norm.
func TestNormOfProduct(t *testing.T) {
	is := sure(t)
	for _, a := range small() {
		n, _ := eisen.Norm(a)
		if is(eisen.Mul(a, is(eisen.Conj(a)))) != e(n, 0) {
			t.Error(a, n)
		}
		for _, b := range small() {
			m, _ := eisen.Norm(b)
			both := times(big.NewInt(n), big.NewInt(m))
			got, ok := eisen.Norm(is(eisen.Mul(a, b)))
			one(t, both, got, ok, "Norm of Mul", a, b)
		}
	}
}

// 2.4: every call ends, and none panics, of numbers at all ends.
func TestEveryCallEnds(t *testing.T) {
	for _, a := range points() {
		eisen.Conj(a)
		eisen.Norm(a)
		eisen.Steps(a)
		for _, n := range parts() {
			eisen.Round(a, n)
			eisen.Mul(a, e(n, lo))
			eisen.Add(a, e(n, lo))
			eisen.Sub(a, e(n, lo))
		}
	}
	for _, k := range []int{math.MinInt, -7, -1, 0, 5, 6, 20, 21, math.MaxInt} {
		eisen.Unit(k)
		eisen.Beta(k)
	}
}
