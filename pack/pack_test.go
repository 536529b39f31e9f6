package pack_test

import (
	"math"
	"slices"
	"testing"

	"apiary/api"
	"apiary/cell"
	"apiary/ident"
	"apiary/pack"
)

const (
	top = math.MaxUint64
	// most is how many words a list may have.
	most = 20000
)

// noWords is what is no word: all nought, all one, and words with one part wrong.
var noWords = []uint64{0, 1, 7, 0xa5, 1 << 60, 1 << 63, top - 1, top, 0x0080200fffffffff, 0x2080200fffffffff, 0x1080200ffffffffe, 0x1d80200000000000, 0x1c80200000000007}

// odd is numbers that are no sizes.
var odd = []int{math.MinInt, math.MinInt + 1, -1 << 32, -7, -1, 13, 14, 15, 16, 3 + 1<<32, math.MaxInt - 1, math.MaxInt}

func of(r int, a, b int64) api.Cell { return api.Cell{R: r, Z: api.E{A: a, B: b}} }

// word tells the word of an Ok cell.
func word(t *testing.T, r int, a, b int64) uint64 {
	t.Helper()
	w, err := ident.Of(of(r, a, b))
	if err != api.OK {
		t.Fatal(r, a, b, err)
	}
	return w
}

// kids tells the words of the seven children of w's cell, by their digits.
func kids(t *testing.T, w uint64) []uint64 {
	t.Helper()
	c, err := ident.Cell(w)
	if err != api.OK {
		t.Fatalf("%016x %v", w, err)
	}
	children, err := cell.Children(c)
	if err != api.OK {
		t.Fatal(c, err)
	}
	var l []uint64
	for _, child := range children {
		l = append(l, word(t, child.R, child.Z.A, child.Z.B))
	}
	return l
}

// down tells the words below w so many sizes finer.
func down(t *testing.T, w uint64, sizes int) []uint64 {
	t.Helper()
	l := []uint64{w}
	for range sizes {
		var finer []uint64
		for _, x := range l {
			finer = append(finer, kids(t, x)...)
		}
		l = finer
	}
	return l
}

// next tells numbers that are spread, the same ones each time.
func next(s *uint64) int {
	*s = *s*6364136223846793005 + 1442695040888963407
	return int(*s >> 33)
}

// sorted tells the words of l, rising and each once.
func sorted(l []uint64) []uint64 {
	set := slices.Clone(l)
	slices.Sort(set)
	return slices.Compact(set)
}

// shuffled tells l in another order, with some of its words twice.
func shuffled(l []uint64, s *uint64) []uint64 {
	mixed := slices.Clone(l)
	for i := range mixed {
		if j := next(s) % (i + 1); j != i {
			mixed[i], mixed[j] = mixed[j], mixed[i]
		}
	}
	return append(mixed, mixed[:len(mixed)/9]...)
}

// isWithin tells by their cells if w is a word within another one.
func isWithin(w, a uint64) bool {
	c, err := ident.Cell(w)
	other, otherErr := ident.Cell(a)
	return err == api.OK && otherErr == api.OK && cell.Within(c, other)
}

// isFree looks at each two words of l.
func isFree(l []uint64) bool {
	for i, w := range l {
		for j, a := range l {
			if !ident.Ok(w) || i != j && isWithin(w, a) {
				return false
			}
		}
	}
	return true
}

// hasSeven tells if some cell has all its children in l.
func hasSeven(t *testing.T, l []uint64) bool {
	t.Helper()
	count := map[uint64]int{}
	for _, w := range sorted(l) {
		if p, err := ident.Parent(w); err == api.OK {
			count[p]++
		}
	}
	for _, n := range count {
		if n == 7 {
			return true
		}
	}
	return false
}

// joinedSlowly puts one cell in the place of its seven children, then looks at all anew.
func joinedSlowly(t *testing.T, l []uint64) []uint64 {
	t.Helper()
	set := map[uint64]int{}
	for _, w := range l {
		set[w]++
	}
	for joinOne(t, set) {
	}
	var joined []uint64
	for w := range set {
		joined = append(joined, w)
	}
	return sorted(joined)
}

func joinOne(t *testing.T, set map[uint64]int) bool {
	t.Helper()
	for w := range set {
		p, err := ident.Parent(w)
		if err != api.OK {
			continue
		}
		brothers := kids(t, p)
		if !slices.ContainsFunc(brothers, func(b uint64) bool { return set[b] == 0 }) {
			for _, b := range brothers {
				delete(set, b)
			}
			set[p]++
			return true
		}
	}
	return false
}

// tops is words of all sizes up to 9, about 0, spread, and at the rim.
func tops(t *testing.T) []uint64 {
	t.Helper()
	var l []uint64
	s := uint64(8)
	for r := range 10 {
		l = append(l, word(t, r, 0, 0), word(t, r, 1, 0), word(t, r, -3, 2))
	}
	for _, base := range []api.E{{A: -512, B: -512}, {A: -512, B: 511}, {A: 511, B: -512}, {A: 511, B: 511}, {A: 511, B: 3}, {A: 31, B: -200}} {
		w := word(t, 0, base.A, base.B)
		for range 10 {
			l = append(l, w)
			w = kids(t, w)[next(&s)%7]
		}
	}
	return l
}

// part is some of the words below a few, all of one size: whole families, families that miss one, and others.
func part(t *testing.T, s *uint64, from []uint64, sizes int) []uint64 {
	t.Helper()
	var l []uint64
	for _, w := range from {
		switch all := down(t, w, sizes); next(s) % 4 {
		case 0:
			l = append(l, all...)
		case 1:
			at := next(s) % len(all)
			l = append(append(l, all[:at]...), all[at+1:]...)
		case 2:
			from, to := next(s)%len(all), next(s)%len(all)
			l = append(l, all[min(from, to):max(from, to)]...)
		default:
			for _, w := range all {
				if next(s)%3 > 0 {
					l = append(l, w)
				}
			}
		}
	}
	return l
}

// parts is many such lists.
func parts(t *testing.T) [][]uint64 {
	t.Helper()
	var l [][]uint64
	s := uint64(88)
	for _, w := range tops(t) {
		l = append(l, part(t, &s, []uint64{w}, 1), part(t, &s, []uint64{w}, 2))
		l = append(l, part(t, &s, kids(t, w), 1), part(t, &s, kids(t, w), 2), part(t, &s, kids(t, w)[next(&s)%7:], 2))
	}
	return l
}

// 8.1: Compact, by hand.
func TestCompactByHand(t *testing.T) {
	for r := range 12 {
		w := word(t, r, 5, -4)
		l := kids(t, w)
		if got, err := pack.Compact(l); !slices.Equal(got, []uint64{w}) || err != api.OK {
			t.Error(r, got, err)
		}
		for i := range l {
			less := slices.Concat(l[i+1:], l[:i])
			if got, err := pack.Compact(less); !slices.Equal(got, sorted(less)) || err != api.OK {
				t.Error(r, i, got, err)
			}
		}
		other := word(t, r+1, 99, 99)
		if got, err := pack.Compact(slices.Concat(l, []uint64{other}, l)); !slices.Equal(got, []uint64{w, other}) || err != api.OK {
			t.Error(r, got, err)
		}
	}
	for r := range 13 {
		w := word(t, r, -1, 2)
		if got, err := pack.Compact([]uint64{w, w, w}); !slices.Equal(got, []uint64{w}) || err != api.OK {
			t.Error(r, got, err)
		}
	}
	for _, l := range [][]uint64{nil, {}} {
		if got, err := pack.Compact(l); len(got) != 0 || err != api.OK {
			t.Error(got, err)
		}
	}
}

// 8.1: cells of size 0 have no parent: seven of them stay seven.
func TestCompactOfBases(t *testing.T) {
	var l []uint64
	for a := range int64(7) {
		for b := range int64(7) {
			l = append(l, word(t, 0, a-3, b-3))
		}
	}
	for n := range l {
		if got, err := pack.Compact(l[:n]); !slices.Equal(got, sorted(l[:n])) || err != api.OK {
			t.Fatal(n, got, err)
		}
	}
	var below []uint64
	for _, w := range l[:9] {
		below = append(below, down(t, w, 3)...)
	}
	if got, err := pack.Compact(below); !slices.Equal(got, sorted(l[:9])) || err != api.OK {
		t.Error(got, err)
	}
}

// 8.1: Compact goes on until there are no seven; held against joining one family after another.
func TestCompact(t *testing.T) {
	s := uint64(808)
	for _, l := range parts(t) {
		got, err := pack.Compact(shuffled(l, &s))
		if want := joinedSlowly(t, l); !slices.Equal(got, want) || err != api.OK {
			t.Fatal(l, got, want, err)
		}
	}
}

// 8.1: Compact takes 20,000 words, be they often the same ones, and no more, ahead of all else that may be wrong.
func TestCompactMany(t *testing.T) {
	w := word(t, 4, 3, 9)
	var l []uint64
	for i := 0; len(l) < most; i++ {
		l = append(l, down(t, word(t, 7, int64(i), -5), 5)...)
	}
	l = l[:most]
	got, err := pack.Compact(l)
	if !slices.Equal(got[:1], []uint64{word(t, 7, 0, -5)}) || len(got) > 30 || err != api.OK {
		t.Error(len(got), err)
	}
	if back, err := pack.Spread(got, 12); !slices.Equal(back, sorted(l)) || err != api.OK {
		t.Error(len(back), err)
	}
	if got, err := pack.Compact(slices.Repeat([]uint64{w}, most)); !slices.Equal(got, []uint64{w}) || err != api.OK {
		t.Error(got, err)
	}
	for _, l := range [][]uint64{append(l, l[0]), slices.Repeat([]uint64{w}, most+1), make([]uint64, most+1), slices.Repeat([]uint64{w, kids(t, w)[0], 5}, most), make([]uint64, 5*most)} {
		if got, err := pack.Compact(l); len(got) != 0 || err != api.ErrMany {
			t.Error(len(l), len(got), err)
		}
	}
}

// 8.1, W6: Compact refuses what is no word, wherever it is, ahead of words of several sizes.
func TestCompactRefuses(t *testing.T) {
	x, y := word(t, 3, 0, 0), word(t, 4, 1, 0)
	for _, no := range noWords {
		for _, l := range [][]uint64{{no}, {no, x}, {x, no}, {x, y, no}, {no, y, x}, {x, x, no, y}, slices.Repeat([]uint64{no}, most)} {
			if got, err := pack.Compact(l); len(got) != 0 || err != api.ErrWord {
				t.Errorf("%016x %v %v", no, got, err)
			}
		}
	}
	for i, l := range [][]uint64{{x, y}, {y, x}, {x, x, x, y}, {y, x, x}, append(kids(t, x), x), append(kids(t, x), y, word(t, 12, 1, 1)), {word(t, 0, 0, 0), word(t, 12, 0, 0)}, append(slices.Repeat([]uint64{x}, most-1), y)} {
		if got, err := pack.Compact(l); len(got) != 0 || err != api.ErrRes {
			t.Error(i, got, err)
		}
	}
}

// 8.1: Free, by hand.
func TestFreeByHand(t *testing.T) {
	x, y := word(t, 3, 0, 0), word(t, 3, 1, 0)
	first, last, grandchild := kids(t, x)[0], kids(t, x)[6], kids(t, kids(t, x)[2])[3]
	for i, c := range []struct {
		l    []uint64
		want bool
	}{
		{nil, true}, {[]uint64{}, true}, {[]uint64{x}, true}, {[]uint64{x, y}, true}, {[]uint64{y, x}, true}, {kids(t, x), true}, {append(kids(t, x), y), true},
		{[]uint64{x, x}, false}, {[]uint64{x, y, x}, false}, {[]uint64{first, x}, false}, {[]uint64{x, first}, false}, {[]uint64{last, x}, false}, {[]uint64{x, last}, false},
		{[]uint64{y, first, last}, true}, {[]uint64{first, y, last, grandchild}, true}, {[]uint64{grandchild, y, x}, false}, {[]uint64{x, y, grandchild}, false}, {append(kids(t, x), grandchild), false},
		{[]uint64{word(t, 0, 0, 0), word(t, 12, 0, 0)}, false}, {[]uint64{word(t, 0, 1, 0), word(t, 12, 0, 0)}, true}, {append(down(t, x, 3), grandchild), false},
	} {
		if got := pack.Free(c.l); got != c.want {
			t.Error(i, got)
		}
	}
	for _, no := range noWords {
		if pack.Free([]uint64{no}) || pack.Free([]uint64{no, x}) || pack.Free([]uint64{x, y, no}) || pack.Free([]uint64{x, no, y}) {
			t.Errorf("%016x", no)
		}
	}
}

// mixes is short lists of words that lie within one another and beside one another.
func mixes(t *testing.T) [][]uint64 {
	t.Helper()
	var l [][]uint64
	s := uint64(888)
	for _, w := range tops(t) {
		pool := slices.Concat([]uint64{w}, kids(t, w), down(t, w, 2), down(t, kids(t, w)[next(&s)%7], 2), []uint64{word(t, 12, 7, 7), word(t, 0, 3, 3)})
		for range 12 {
			var mix []uint64
			for range next(&s) % 8 {
				mix = append(mix, pool[next(&s)%len(pool)])
			}
			l = append(l, mix)
		}
	}
	return l
}

// 8.1: Free, held against looking at each two words.
func TestFree(t *testing.T) {
	free := 0
	for _, l := range append(mixes(t), parts(t)[:6]...) {
		if pack.Free(l) != isFree(l) {
			t.Fatal(l, isFree(l))
		}
		if isFree(l) {
			free++
		}
	}
	if free < 200 {
		t.Error(free)
	}
}

// 8.1: Covers, held against looking at each word of the list, of any list.
func TestCovers(t *testing.T) {
	x := word(t, 5, -7, 3)
	seen := [2]int{}
	for _, l := range append(mixes(t), nil, noWords, append(slices.Clone(noWords), x)) {
		asked := append(slices.Clone(noWords), x, kids(t, x)[5], word(t, 12, 9, 9), word(t, 0, 1, 1))
		for _, w := range l {
			asked = append(asked, w)
			if r := ident.Res(w); 0 < r && r < 12 {
				parent, _ := ident.Parent(w)
				asked = append(asked, parent, kids(t, w)[0], kids(t, w)[6])
			}
		}
		for _, w := range asked {
			want := slices.ContainsFunc(l, func(a uint64) bool { return isWithin(w, a) })
			if got := pack.Covers(l, w); got != want {
				t.Fatalf("%016x %016x %v", l, w, got)
			}
			if want {
				seen[1]++
			} else {
				seen[0]++
			}
		}
	}
	if seen[0] < 1000 || seen[1] < 1000 {
		t.Error(seen)
	}
}

// 8.1: no bound is told for Covers and Free, and words of finest cells are within all above them.
func TestCoversAndFreeOfMany(t *testing.T) {
	var l []uint64
	for a := int64(-512); a < 0; a++ {
		for b := range int64(100) {
			l = append(l, word(t, 0, a, b))
		}
	}
	in, out := word(t, 0, -1, 99), word(t, 0, 0, 0)
	for range 12 {
		in, out = kids(t, in)[6], kids(t, out)[0]
		if !pack.Covers(l, in) || pack.Covers(l, out) {
			t.Errorf("%016x %016x", in, out)
		}
	}
	if !pack.Free(l) || !pack.Free(append(slices.Clone(l), out)) || pack.Free(append(slices.Clone(l), in)) || pack.Free(append(slices.Clone(l), l[0])) {
		t.Error("Free")
	}
}

func TestArgumentsStay(t *testing.T) {
	x := word(t, 5, 1, 1)
	for _, l := range [][]uint64{nil, {x}, down(t, x, 2), {word(t, 6, 9, 9), word(t, 6, 1, 2), word(t, 6, 1, 2)}, {x, kids(t, x)[1]}, {7, x, 5}} {
		slices.Reverse(l)
		all := append(slices.Clone(l), 11, 12, 13, 14, 15, 16, 17, 18)
		ahead := slices.Clone(all)
		given := all[:len(l)]
		compact, _ := pack.Compact(given)
		spread, _ := pack.Spread(given, 7)
		same, _ := pack.Spread(given, 6)
		pack.Free(given)
		pack.Size(given, 8)
		pack.Covers(given, x)
		for _, answer := range [][]uint64{compact, spread, same} {
			answer = answer[:cap(answer)]
			for i := range answer {
				answer[i] = 1
			}
		}
		if !slices.Equal(all, ahead) {
			t.Error(l, all)
		}
	}
}

// 8.3, rule 2: every call ends and none panics.
func TestEveryCallEnds(t *testing.T) {
	x := word(t, 5, 1, 1)
	lists := append(mixes(t)[:40], nil, noWords, slices.Repeat(noWords, 999), make([]uint64, most+1), slices.Repeat([]uint64{x}, most+1), append(down(t, x, 3), noWords...), down(t, x, 2), []uint64{word(t, 0, 1, 1), word(t, 12, 1, 1)})
	for _, l := range lists {
		pack.Compact(l)
		pack.Free(l)
		for _, w := range append(slices.Clone(noWords), x, word(t, 0, 5, 5), word(t, 12, 5, 5)) {
			pack.Covers(l, w)
		}
		for _, r := range append(slices.Clone(odd), 0, 1, 4, 5, 6, 7, 12) {
			pack.Size(l, r)
			pack.Spread(l, r)
		}
	}
}
