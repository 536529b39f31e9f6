package num_test

import (
	"math"
	"math/big"
	"strings"
	"testing"

	"apiary/num"
)

const (
	hi = math.MaxInt64
	lo = math.MinInt64
)

// numbers is the ends, the powers of two, roots of the ends and small numbers, each with what lies beside it, and numbers that are spread over all bits.
func numbers() []int64 {
	l := []int64{lo, lo + 1, hi - 1, hi, 3037000499, 3037000500, -3037000499, -3037000500, 2097151, 2097152, -2097152, -2097153}
	for n := int64(-12); n <= 12; n++ {
		l = append(l, n)
	}
	for k := 4; k < 63; k += 3 {
		n := int64(1) << k
		l = append(l, n-1, n, n+1, -n-1, -n, -n+1)
	}
	l = append(l, 1<<62, -1<<62, 1<<31, -1<<31, 1<<32, -1<<32)
	spread := uint64(1)
	for range 60 {
		spread = spread*6364136223846793005 + 1442695040888963407
		l = append(l, int64(spread), int64(spread)>>(spread%64))
	}
	return l
}

// counts is how often something may be done: wrong ones, usual ones, and the greatest.
func counts() []int {
	l := []int{math.MinInt, math.MinInt + 1, -64, -63, -2, -1}
	for k := range 131 {
		l = append(l, k)
	}
	return append(l, 255, 256, 1<<31, 1<<32, 1<<40, 1<<40+1, math.MaxInt-1, math.MaxInt)
}

// agree fails if n and ok are not what the exact number asks for: itself, if it is one of 64 bits, and 0 and false else.
func agree(t *testing.T, exact *big.Int, n int64, ok bool, call string, with ...any) {
	t.Helper()
	want := int64(0)
	if exact.IsInt64() {
		want = exact.Int64()
	}
	if n != want || ok != exact.IsInt64() {
		t.Fatal(call, with, "told", n, ok, "and is", exact)
	}
}

// 1.1 and 1.2: Add, Sub, Mul and Neg tell the whole number, or false.
func TestPairsAreExact(t *testing.T) {
	l := numbers()
	for _, a := range l {
		n, ok := num.Neg(a)
		agree(t, new(big.Int).Neg(big.NewInt(a)), n, ok, "Neg", a)
		for _, b := range l {
			x, y := big.NewInt(a), big.NewInt(b)
			n, ok := num.Add(a, b)
			agree(t, new(big.Int).Add(x, y), n, ok, "Add", a, b)
			n, ok = num.Sub(a, b)
			agree(t, new(big.Int).Sub(x, y), n, ok, "Sub", a, b)
			n, ok = num.Mul(a, b)
			agree(t, new(big.Int).Mul(x, y), n, ok, "Mul", a, b)
		}
	}
}

// 1.1: the calls beside numbers that are written out, so that a fault in what is held against them above does not hide one here.
func TestPairsByHand(t *testing.T) {
	for _, x := range []struct {
		name    string
		do      func(a, b int64) (int64, bool)
		a, b, n int64
		ok      bool
	}{
		{"Add", num.Add, 3, 4, 7, true},
		{"Add", num.Add, hi, lo, -1, true},
		{"Add", num.Add, hi, 1, 0, false},
		{"Add", num.Add, lo, lo, 0, false},
		{"Sub", num.Sub, 3, 4, -1, true},
		{"Sub", num.Sub, -1, lo, hi, true},
		{"Sub", num.Sub, 0, lo, 0, false},
		{"Mul", num.Mul, -3, 4, -12, true},
		{"Mul", num.Mul, lo, 1, lo, true},
		{"Mul", num.Mul, 1, lo, lo, true},
		{"Mul", num.Mul, 0, lo, 0, true},
		{"Mul", num.Mul, lo, 0, 0, true},
		{"Mul", num.Mul, -1, lo, 0, false},
		{"Mul", num.Mul, lo, -1, 0, false},
		{"Mul", num.Mul, 1 << 32, 1 << 32, 0, false},
	} {
		if n, ok := x.do(x.a, x.b); n != x.n || ok != x.ok {
			t.Error(x.name, x.a, x.b, "told", n, ok)
		}
	}
}

// 1.1 and 1.2: Shl tells a times 2^k, or false; of a 0 each k from 0 on will do.
func TestShlIsExact(t *testing.T) {
	for _, a := range numbers() {
		for _, k := range counts() {
			n, ok := num.Shl(a, k)
			switch {
			case k < 0:
				if n != 0 || ok {
					t.Fatal("Shl", a, k, "told", n, ok)
				}
			case a == 0 || k > 200:
				// Of an a that is not 0 so great a k leaves no 64 bits.
				if n != 0 || ok != (a == 0) {
					t.Fatal("Shl", a, k, "told", n, ok)
				}
			default:
				agree(t, new(big.Int).Lsh(big.NewInt(a), uint(k)), n, ok, "Shl", a, k)
			}
		}
	}
}

// 1.1: Floor parts a into q times b and r from 0 to below b, and refuses a b that is not above 0.
func TestFloorIsExact(t *testing.T) {
	l := numbers()
	for _, a := range l {
		for _, b := range l {
			q, r, ok := num.Floor(a, b)
			if b <= 0 {
				if q != 0 || r != 0 || ok {
					t.Fatal("Floor", a, b, "told", q, r, ok)
				}
				continue
			}
			back := new(big.Int).Mul(big.NewInt(q), big.NewInt(b))
			back.Add(back, big.NewInt(r))
			if !ok || r < 0 || r >= b || back.Cmp(big.NewInt(a)) != 0 {
				t.Fatal("Floor", a, b, "told", q, r, ok)
			}
		}
	}
	if q, r, ok := num.Floor(-7, 3); q != -3 || r != 2 || !ok {
		t.Error(q, r, ok)
	}
}

// power is a, k times with itself, for k from 0 on; beyond 300 only 0, 1 and -1 stay small, and these hang on whether k is odd.
func power(a int64, k int) *big.Int {
	if k > 300 {
		k = 300 + k%2
	}
	return new(big.Int).Exp(big.NewInt(a), big.NewInt(int64(k)), nil)
}

// 1.1 and 1.2: Pow tells the power, or false; of k 0 it is 1, of 0 too.
func TestPowIsExact(t *testing.T) {
	for _, a := range numbers() {
		for _, k := range counts() {
			n, ok := num.Pow(a, k)
			if k >= 0 {
				agree(t, power(a, k), n, ok, "Pow", a, k)
			} else if n != 0 || ok {
				t.Fatal("Pow", a, k, "told", n, ok)
			}
		}
	}
	// The last power that has 64 bits, and the one behind it, of each number that has several.
	for a := int64(-70); a <= 70; a++ {
		for k := range 66 {
			n, ok := num.Pow(a, k)
			agree(t, power(a, k), n, ok, "Pow", a, k)
		}
	}
}

// 1.1: Text writes a minus and digits without noughts ahead, and Parse reads it back.
func TestTextsAreReadBack(t *testing.T) {
	for _, n := range numbers() {
		s := num.Text(n)
		if s != big.NewInt(n).String() {
			t.Error("Text", n, "told", s)
		}
		if back, ok := num.Parse(s); back != n || !ok {
			t.Error("Parse", s, "told", back, ok)
		}
	}
	for s, n := range map[string]int64{"0": 0, "7": 7, "-10": -10, "9223372036854775807": hi, "-9223372036854775808": lo} {
		if back, ok := num.Parse(s); back != n || !ok || num.Text(n) != s {
			t.Error(s, back, ok, num.Text(n))
		}
	}
}

// 1.1: Parse is false of each text that Text does not write.
func TestOtherTextsAreRefused(t *testing.T) {
	for _, s := range []string{
		"", "-", "+", "-0", "+0", "+1", "--1", "-+1", "00", "01", "-01", "007", "0x10", "0b1", "0o7", "1_000", "1,000",
		" 1", "1 ", "1\n", "\t1", "- 1", "1\x00", "\x00", "1.0", "1.", ".5", "1e3", "1-", "a", "Inf", "NaN", "\xff", "1\xff",
		"\u0661", "\uff11", "\u22121", "9223372036854775808", "-9223372036854775809", "18446744073709551616", "18446744073709551617",
		"00000000000000000001", "99999999999999999999999999999999",
		strings.Repeat("0", 100000), strings.Repeat("9", 100000), "-" + strings.Repeat("0", 100000) + "1",
	} {
		if n, ok := num.Parse(s); n != 0 || ok {
			t.Errorf("Parse %.40q told %d, %v", s, n, ok)
		}
	}
	// One byte more, less or other than a good text has: good just if Text writes it so.
	for _, n := range numbers() {
		good := num.Text(n)
		for at := range len(good) {
			for _, c := range []byte("-+0159 .\x00\x80") {
				checkText(t, good[:at]+string(rune(c))+good[at:])
				checkText(t, good[:at]+string(rune(c))+good[at+1:])
			}
			checkText(t, good[:at]+good[at+1:])
		}
	}
}

// checkText fails if Parse of s is not as a reader of whole numbers of any length has it.
func checkText(t *testing.T, s string) {
	t.Helper()
	exact, ok := new(big.Int).SetString(s, 10)
	ok = ok && exact.IsInt64() && exact.String() == s
	want := int64(0)
	if ok {
		want = exact.Int64()
	}
	if n, told := num.Parse(s); n != want || told != ok {
		t.Fatalf("Parse %q told %d, %v", s, n, told)
	}
}

// 1.3: a call that went on, or panicked, would end the test: here all with the ends, with one another.
func TestEveryCallEnds(t *testing.T) {
	ends := []int64{lo, lo + 1, -2, -1, 0, 1, 2, hi - 1, hi}
	for _, a := range ends {
		num.Neg(a)
		num.Text(a)
		for _, b := range ends {
			num.Add(a, b)
			num.Sub(a, b)
			num.Mul(a, b)
			num.Floor(a, b)
			num.Shl(a, int(b))
			num.Pow(a, int(b))
		}
	}
	for c := range 256 {
		num.Parse(string([]byte{byte(c)}))
		num.Parse(string([]byte{'-', byte(c)}))
		num.Parse(string([]byte{'1', byte(c)}))
	}
}
