package pack_test

import (
	"slices"
	"testing"

	"apiary/api"
	"apiary/cell"
	"apiary/ident"
	"apiary/pack"
)

// power tells 7 times 7, so many times.
func power(k int) int64 {
	n := int64(1)
	for range k {
		n *= 7
	}
	return n
}

// 8.1: Size counts each word of the list, wherever it lies.
func TestSizeByHand(t *testing.T) {
	for from := range 13 {
		w := word(t, from, 2, -1)
		for r := from; r <= 12; r++ {
			for times := range 5 {
				if n, err := pack.Size(slices.Repeat([]uint64{w}, times), r); n != int64(times)*power(r-from) || err != api.OK {
					t.Error(from, r, times, n, err)
				}
			}
		}
	}
	x := word(t, 3, 0, 0)
	for i, c := range []struct {
		l []uint64
		r int
		n int64
	}{
		{nil, 0, 0}, {nil, 12, 0}, {[]uint64{}, 5, 0}, {append(kids(t, x), x), 4, 14}, {append(kids(t, x), x, word(t, 0, 0, 0)), 4, 14 + 2401}, {slices.Concat(kids(t, x), kids(t, x)), 6, 686}, {slices.Repeat([]uint64{x}, most+1), 3, most + 1},
		{[]uint64{word(t, 0, 5, 5), word(t, 12, 5, 5)}, 12, 13841287202},
	} {
		if n, err := pack.Size(c.l, c.r); n != c.n || err != api.OK {
			t.Error(i, n, err)
		}
	}
}

// exactly tells words which have just n cells of size 12, no two of them with the same cells.
func exactly(t *testing.T, n int64) []uint64 {
	t.Helper()
	var l []uint64
	for r := range 13 {
		each := power(12 - r)
		for i := range n / each {
			l = append(l, word(t, r, 100+i%9-int64(r), 40*int64(r)+i/9))
		}
		n %= each
	}
	return l
}

// 8.1: Size counts up to 2^40, and no further.
func TestSizeMany(t *testing.T) {
	const greatest = 1 << 40
	one := word(t, 12, -4, 4)
	for _, n := range []int64{greatest - 1, greatest} {
		if got, err := pack.Size(exactly(t, n), 12); got != n || err != api.OK {
			t.Error(n, got, err)
		}
	}
	if got, err := pack.Size(append(exactly(t, greatest-1), one), 12); got != greatest || err != api.OK {
		t.Error(got, err)
	}
	full := exactly(t, greatest)
	base := word(t, 0, 1, 1)
	for i, l := range [][]uint64{append(full, one), slices.Concat([]uint64{one}, full), slices.Concat(full, full), slices.Repeat([]uint64{base}, 80), slices.Repeat([]uint64{base}, 1<<19), exactly(t, greatest+1)} {
		if got, err := pack.Size(l, 12); got != 0 || err != api.ErrMany {
			t.Error(i, got, err)
		}
		if got, err := pack.Spread(l, 12); len(got) != 0 || err != api.ErrMany {
			t.Error(i, len(got), err)
		}
	}
	if got, err := pack.Size(slices.Repeat([]uint64{base}, 79), 12); got != 79*power(12) || err != api.OK {
		t.Error(got, err)
	}
}

// 8.1, W6: Size and Spread refuse what is no word, then a word that is finer, then what is no size, then too many.
func TestSizeAndSpreadRefuse(t *testing.T) {
	base, x, y, finest := word(t, 0, 1, 1), word(t, 3, 0, 0), word(t, 4, 1, 0), word(t, 12, 1, 0)
	type ask struct {
		l   []uint64
		r   int
		err api.Errno
	}
	asks := []ask{
		{[]uint64{x}, 2, api.ErrRes}, {[]uint64{x, y}, 3, api.ErrRes}, {[]uint64{y, x}, 3, api.ErrRes}, {[]uint64{base, finest}, 11, api.ErrRes}, {[]uint64{finest}, 0, api.ErrRes},
		{append(slices.Repeat([]uint64{base}, 100), finest), 11, api.ErrRes}, {append(slices.Repeat([]uint64{base}, 999), 5), 12, api.ErrWord},
	}
	for _, r := range odd {
		outside := api.ErrArg
		if r < 0 {
			outside = api.ErrRes
		}
		asks = append(asks, ask{nil, r, api.ErrArg}, ask{[]uint64{}, r, api.ErrArg}, ask{[]uint64{base}, r, outside}, ask{[]uint64{x, y}, r, outside}, ask{[]uint64{finest}, r, outside}, ask{slices.Repeat([]uint64{base}, 1<<15), r, outside})
	}
	for _, no := range noWords {
		for _, r := range []int{-1, 0, 3, 12, 13} {
			asks = append(asks, ask{[]uint64{no}, r, api.ErrWord}, ask{[]uint64{x, y, no}, r, api.ErrWord}, ask{[]uint64{no, y, x}, r, api.ErrWord}, ask{[]uint64{finest, no}, r, api.ErrWord})
		}
	}
	for i, a := range asks {
		if n, err := pack.Size(a.l, a.r); n != 0 || err != a.err {
			t.Error("Size", i, a.r, n, err)
		}
		if l, err := pack.Spread(a.l, a.r); len(l) != 0 || err != a.err {
			t.Error("Spread", i, a.r, len(l), err)
		}
	}
}

// 8.1: Spread, held against going down by children.
func TestSpreadDown(t *testing.T) {
	for _, w := range tops(t) {
		r := ident.Res(w)
		for sizes := range 4 {
			if got, err := pack.Spread([]uint64{w}, r+sizes); !slices.Equal(got, sorted(down(t, w, sizes))) || err != api.OK {
				t.Fatalf("%016x %d %d %v", w, sizes, len(got), err)
			}
		}
	}
	for _, l := range [][]uint64{nil, {}} {
		for r := range 13 {
			if got, err := pack.Spread(l, r); len(got) != 0 || err != api.OK {
				t.Error(r, got, err)
			}
		}
	}
}

// 8.1: Spread, held against asking of each cell of a square if it is within one of the list.
func TestSpreadInASquare(t *testing.T) {
	const r, half = 6, 70
	var square []uint64
	for a := int64(-half); a <= half; a++ {
		for b := int64(-half); b <= half; b++ {
			square = append(square, word(t, r, a, b))
		}
	}
	for i, l := range [][]uint64{
		{word(t, 6, 3, 4)}, {word(t, 5, 0, 0)}, {word(t, 4, 1, -1), word(t, 4, 0, 0)}, {word(t, 3, 0, 0)}, {word(t, 3, 0, 0), word(t, 4, 0, 0), word(t, 6, 0, 1), word(t, 6, 40, -39)}, {word(t, 6, 9, 9), word(t, 3, 1, 0), word(t, 6, 9, 9)},
	} {
		var want []uint64
		for _, w := range square {
			if slices.ContainsFunc(l, func(a uint64) bool { return isWithin(w, a) }) {
				want = append(want, w)
			}
		}
		if got, err := pack.Spread(l, r); !slices.Equal(got, sorted(want)) || err != api.OK {
			t.Error(i, len(got), len(want), err)
		}
	}
}

// 8.1: Spread tells each cell once, though Size counts it over and over, and its bound is of what Size counts.
func TestSpreadMany(t *testing.T) {
	full := exactly(t, most)
	got, err := pack.Spread(full, 12)
	if len(got) != most || err != api.OK || !slices.Equal(got, sorted(got)) {
		t.Error(len(got), err)
	}
	x := word(t, 12, -4, 4)
	if got, err := pack.Spread(slices.Repeat([]uint64{x}, most), 12); !slices.Equal(got, []uint64{x}) || err != api.OK {
		t.Error(got, err)
	}
	y := word(t, 8, -4, 4)
	if got, err := pack.Spread(slices.Repeat([]uint64{y}, 8), 12); !slices.Equal(got, down(t, y, 4)) || err != api.OK {
		t.Error(len(got), err)
	}
	for i, l := range [][]uint64{append(full, x), slices.Repeat([]uint64{x}, most+1), slices.Repeat([]uint64{y}, 9), exactly(t, most+1), {word(t, 6, 0, 0)}, {word(t, 0, 0, 0)}} {
		if got, err := pack.Spread(l, 12); len(got) != 0 || err != api.ErrMany {
			t.Error(i, len(got), err)
		}
	}
}

// 8.2, W5: what is packed is Free, without seven brothers, and spread again the same cells.
func TestThereAndBack(t *testing.T) {
	for _, l := range parts(t) {
		if len(l) == 0 {
			continue
		}
		packed, err := pack.Compact(l)
		if err != api.OK || !pack.Free(packed) || hasSeven(t, packed) {
			t.Fatal(l, packed, err)
		}
		r := ident.Res(l[0])
		if n, err := pack.Size(packed, r); n != int64(len(l)) || err != api.OK {
			t.Fatal(l, n, err)
		}
		back, err := pack.Spread(packed, r)
		if !slices.Equal(back, sorted(l)) || err != api.OK {
			t.Fatal(l, back, err)
		}
		for _, w := range l {
			if !pack.Covers(packed, w) {
				t.Fatalf("%v %016x", packed, w)
			}
		}
		again, err := pack.Compact(back)
		if !slices.Equal(again, packed) || err != api.OK {
			t.Fatal(l, again, err)
		}
	}
}

// 8.2: there is just one: of all Free sets without seven brothers of the words below one, each has cells of its own, and is what these make if they are packed.
func TestJustOne(t *testing.T) {
	for _, w := range []uint64{word(t, 0, 0, 0), word(t, 2, 6, -3), word(t, 0, 511, -512)} {
		children := kids(t, w)
		grandchildren := kids(t, children[3])
		pool := slices.Concat([]uint64{w}, grandchildren, children[2:6])
		seen := map[string]int{}
		for chosen := range 1 << len(pool) {
			// The other brothers of size 1 are all there or all not.
			for _, rest := range [][]uint64{nil, slices.Concat(children[:2], children[6:])} {
				l := slices.Clone(rest)
				for i, x := range pool {
					if chosen>>i&1 == 1 {
						l = append(l, x)
					}
				}
				if !pack.Free(l) || hasSeven(t, l) {
					continue
				}
				checkUnique(t, l, ident.Res(w)+2, seen)
			}
		}
		// w; and the rest or not, some of the three others, and child 3 or not all of its seven, but for all at once.
		if want := 1 + 2*8*(1+127) - 1; len(seen) != want {
			t.Error(len(seen))
		}
	}
}

// checkUnique looks if the cells of l were seen, and if l is what they make.
func checkUnique(t *testing.T, l []uint64, r int, seen map[string]int) {
	t.Helper()
	spread, err := pack.Spread(l, r)
	if err != api.OK {
		t.Fatal(l, err)
	}
	var name []byte
	for _, w := range spread {
		name = append(name, ident.Text(w)...)
	}
	if seen[string(name)]++; seen[string(name)] > 1 {
		t.Fatal(l, "has cells that others have")
	}
	packed, err := pack.Compact(spread)
	if !slices.Equal(packed, sorted(l)) || err != api.OK {
		t.Fatal(l, packed, err)
	}
}

// W5: each of seven children has the one parent that Compact makes of them, and is one of the cells that Spread makes of it.
func TestSevenHaveOneParent(t *testing.T) {
	for _, w := range tops(t) {
		l, err := pack.Spread([]uint64{w}, ident.Res(w)+1)
		if len(l) != 7 || err != api.OK {
			t.Fatalf("%016x %v %v", w, l, err)
		}
		for _, x := range l {
			c, _ := ident.Cell(x)
			p, err := cell.Parent(c)
			above, _ := ident.Of(p)
			if above != w || err != api.OK {
				t.Fatalf("%016x %016x %v", x, above, err)
			}
		}
	}
}
