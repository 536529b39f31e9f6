package cells_test

import (
	"math"
	"slices"
	"testing"

	"apiary/api"
	"apiary/cell"
	"apiary/cells"
	"apiary/ident"
)

const (
	top = math.MaxUint64
	// most is how many words a list may have.
	most = 20000
)

// noWords is what is no word: all nought, all one, and words with one part wrong.
var noWords = []uint64{0, 1, 7, 0xa5, 1 << 60, 1 << 63, top - 1, top, 0x0080200fffffffff, 0x2080200fffffffff, 0x1080200ffffffffe, 0x1d80200000000000, 0x1c80200000000007}

// call is Union, Meet or Minus.
type call func(a, b []uint64) ([]uint64, api.Errno)

// calls are the three, and which words each of them tells.
var calls = []struct {
	name string
	do   call
	has  func(inA, inB bool) bool
}{
	{"Union", cells.Union, func(inA, inB bool) bool { return inA || inB }},
	{"Meet", cells.Meet, func(inA, inB bool) bool { return inA && inB }},
	{"Minus", cells.Minus, func(inA, inB bool) bool { return inA && !inB }},
}

func of(r int, a, b int64) api.Cell { return api.Cell{R: r, Z: api.E{A: a, B: b}} }

// word tells the word of an Ok cell.
func word(t *testing.T, c api.Cell) uint64 {
	t.Helper()
	w, err := ident.Of(c)
	if err != api.OK {
		t.Fatal(c, err)
	}
	return w
}

// next tells numbers that are spread, the same ones each time.
func next(s *uint64) uint64 {
	*s = *s*6364136223846793005 + 1442695040888963407
	return *s >> 33
}

// lists is lists of all kinds: none, short ones of few words, which so are there again and again, and ones with the ends.
func lists() [][]uint64 {
	l := [][]uint64{nil, {}, {0}, {top}, {0, top}, {top, 0, top}, {3, 1, 3}, {1, 2, 3, 4, 5}, {5, 4, 3, 2, 1}, {2, 2, 2, 2}, {1 << 63, 1<<63 - 1, 0}}
	s := uint64(7)
	for range 30 {
		var random []uint64
		for range next(&s) % 12 {
			random = append(random, next(&s)%9)
		}
		l = append(l, random)
	}
	for range 4 {
		var wide []uint64
		for range 300 {
			wide = append(wide, next(&s)<<33^next(&s)%3)
		}
		l = append(l, wide, append(slices.Clone(wide[100:]), wide[150:]...))
	}
	return l
}

// run tells the numbers from first on, n of them, falling.
func run(first uint64, n int) []uint64 {
	var l []uint64
	for i := range n {
		l = append(l, first+uint64(n-1-i))
	}
	return l
}

// isIn looks at each word of l.
func isIn(l []uint64, w uint64) bool {
	for _, x := range l {
		if x == w {
			return true
		}
	}
	return false
}

// rises tells if each word of l is above the one ahead of it.
func rises(l []uint64) bool {
	for i := 1; i < len(l); i++ {
		if l[i] <= l[i-1] {
			return false
		}
	}
	return true
}

// guarded tells a copy of l with room behind it, and what tells if anything of either is another.
func guarded(l []uint64) (list []uint64, isSame func() bool) {
	all := append(slices.Clone(l), 11, 12, 13, 14, 15, 16, 17, 18)
	ahead := slices.Clone(all)
	return all[:len(l)], func() bool { return slices.Equal(all, ahead) }
}

// 7.1: Set is rising, each once, of any words.
func TestSet(t *testing.T) {
	for _, x := range []struct{ l, want []uint64 }{
		{nil, nil}, {[]uint64{}, nil}, {[]uint64{0}, []uint64{0}}, {[]uint64{3, 1, 3}, []uint64{1, 3}}, {[]uint64{3, 1, 3, 0, 1}, []uint64{0, 1, 3}},
		{[]uint64{4, 4, 4, 4}, []uint64{4}}, {[]uint64{top, 0, 1 << 63, 1<<63 - 1, top}, []uint64{0, 1<<63 - 1, 1 << 63, top}}, {[]uint64{1, 2, 3}, []uint64{1, 2, 3}}, {[]uint64{3, 2, 1}, []uint64{1, 2, 3}},
	} {
		if set := cells.Set(x.l); !slices.Equal(set, x.want) {
			t.Error(x.l, set)
		}
	}
	for _, l := range append(lists(), noWords) {
		set := cells.Set(l)
		if !rises(set) {
			t.Fatal(l, "does not rise:", set)
		}
		for _, w := range l {
			if !isIn(set, w) {
				t.Fatal(l, "misses", w)
			}
		}
		for _, w := range set {
			if !isIn(l, w) {
				t.Fatal(l, "has not", w)
			}
		}
	}
}

// 7.1: no bound is told for Set.
func TestGreatSet(t *testing.T) {
	if set := cells.Set(append(run(5, 3*most), run(5, 9)...)); len(set) != 3*most || !rises(set) || set[0] != 5 {
		t.Error(len(set))
	}
}

// 7.1: Union, Meet and Minus, by hand.
func TestThreeByHand(t *testing.T) {
	for _, x := range []struct{ a, b, union, meet, minus []uint64 }{
		{nil, nil, nil, nil, nil},
		{[]uint64{2, 1, 2}, nil, []uint64{1, 2}, nil, []uint64{1, 2}},
		{nil, []uint64{2, 1, 2}, []uint64{1, 2}, nil, nil},
		{[]uint64{5, 1, 3, 3}, []uint64{3, 9, 1, 4}, []uint64{1, 3, 4, 5, 9}, []uint64{1, 3}, []uint64{5}},
		{[]uint64{3, 9, 1, 4}, []uint64{5, 1, 3, 3}, []uint64{1, 3, 4, 5, 9}, []uint64{1, 3}, []uint64{4, 9}},
		{[]uint64{7, 8}, []uint64{1, 2}, []uint64{1, 2, 7, 8}, nil, []uint64{7, 8}},
		{[]uint64{1, 2}, []uint64{7, 8}, []uint64{1, 2, 7, 8}, nil, []uint64{1, 2}},
		{[]uint64{2, 1}, []uint64{1, 2, 1}, []uint64{1, 2}, []uint64{1, 2}, nil},
		{[]uint64{top}, []uint64{0}, []uint64{0, top}, nil, []uint64{top}},
		{[]uint64{top, 0}, []uint64{top}, []uint64{0, top}, []uint64{top}, []uint64{0}},
		{[]uint64{top}, []uint64{top - 1, top}, []uint64{top - 1, top}, []uint64{top}, nil},
		{[]uint64{1 << 63}, []uint64{1<<63 - 1, 1 << 63}, []uint64{1<<63 - 1, 1 << 63}, []uint64{1 << 63}, nil},
	} {
		for i, want := range [][]uint64{x.union, x.meet, x.minus} {
			if l, err := calls[i].do(x.a, x.b); !slices.Equal(l, want) || err != api.OK {
				t.Error(calls[i].name, x.a, x.b, l, err)
			}
		}
	}
}

// 7.1: Union, Meet and Minus of many lists, held against asking of each word which list it is in.
func TestThree(t *testing.T) {
	for _, a := range lists() {
		for _, b := range lists() {
			for _, c := range calls {
				checkChoice(t, c.name, c.do, c.has, a, b)
			}
		}
	}
}

// checkChoice tells if what a call answers rises and has each word that it should have, and no other.
func checkChoice(t *testing.T, name string, do call, has func(inA, inB bool) bool, a, b []uint64) {
	t.Helper()
	l, err := do(a, b)
	if err != api.OK || !rises(l) {
		t.Fatal(name, a, b, l, err)
	}
	for _, w := range l {
		if !has(isIn(a, w), isIn(b, w)) {
			t.Fatal(name, a, b, "has", w)
		}
	}
	for _, from := range [][]uint64{a, b} {
		for _, w := range from {
			if _, is := slices.BinarySearch(l, w); is != has(isIn(a, w), isIn(b, w)) {
				t.Fatal(name, a, b, "of", w, is)
			}
		}
	}
}

// 7.1: a list may have 20,000 words, be they often the same ones, and no more; what comes out too.
func TestMany(t *testing.T) {
	full, over, same := run(1, most), run(1, most+1), make([]uint64, most+1)
	for _, c := range calls {
		for _, x := range []struct{ a, b []uint64 }{{over, nil}, {nil, over}, {over, over}, {over, full}, {full, over}, {same, nil}, {nil, same}, {same, full}, {[]uint64{5}, same}, {run(1, 3*most), nil}} {
			if l, err := c.do(x.a, x.b); len(l) != 0 || err != api.ErrMany {
				t.Error(c.name, len(x.a), len(x.b), len(l), err)
			}
		}
		if l, err := c.do(same[1:], same[1:]); len(l) > 1 || err != api.OK {
			t.Error(c.name, len(l), err)
		}
	}
	for _, x := range []struct {
		a, b               []uint64
		union, meet, minus int
	}{
		{full, full, most, most, 0}, {full, nil, most, 0, most}, {nil, full, most, 0, 0}, {run(1, most-1), []uint64{0}, most, 0, most - 1}, {full, run(5, 100), most, 100, most - 100},
		{run(1, most/2), run(1+most/2, most/2), most, 0, most / 2}, {full, []uint64{0}, -1, 0, most}, {[]uint64{0}, full, -1, 0, 1}, {[]uint64{top}, full, -1, 0, 1}, {full, run(2, most), -1, most - 1, 1},
		{full, run(1+most, most), -1, 0, most}, {run(1, most/2+1), run(most/2+2, most/2), -1, 0, most/2 + 1},
	} {
		for i, want := range []int{x.union, x.meet, x.minus} {
			l, err := calls[i].do(x.a, x.b)
			if want < 0 && (len(l) != 0 || err != api.ErrMany) || want >= 0 && (len(l) != want || err != api.OK || !rises(l)) {
				t.Error(calls[i].name, len(x.a), len(x.b), len(l), err)
			}
		}
	}
}

// 7.1: Has looks into any list.
func TestHas(t *testing.T) {
	for _, x := range []struct {
		l    []uint64
		w    uint64
		want bool
	}{
		{nil, 0, false}, {nil, top, false}, {[]uint64{}, 0, false}, {[]uint64{5, 1, 3, 3}, 5, true}, {[]uint64{5, 1, 3, 3}, 3, true}, {[]uint64{5, 1, 3, 3}, 1, true}, {[]uint64{5, 1, 3, 3}, 4, false}, {[]uint64{5, 1, 3, 3}, 0, false},
		{[]uint64{9, 8, 7, 6, 5}, 9, true}, {[]uint64{9, 8, 7, 6, 5}, 5, true}, {[]uint64{top, 0}, top, true}, {[]uint64{top, 0}, 0, true}, {[]uint64{top, 0}, 1, false}, {make([]uint64, 1, 9), 1, false},
	} {
		if is := cells.Has(x.l, x.w); is != x.want {
			t.Error(x.l, x.w, is)
		}
	}
	for _, l := range lists() {
		for _, w := range append(slices.Clone(l), 0, 1, 4, 8, 9, top) {
			if cells.Has(l, w) != isIn(l, w) {
				t.Fatal(l, w)
			}
		}
	}
	if over := run(1, 3*most); !cells.Has(over, 1) || !cells.Has(over, 3*most) || cells.Has(over, 0) {
		t.Error("Has of many")
	}
}

// 7.1, W6: Check tells the first fault of the list.
func TestCheck(t *testing.T) {
	x, y, finer, base, finest := word(t, of(3, 0, 0)), word(t, of(3, -7, 9)), word(t, of(4, 1, 1)), word(t, of(0, 5, 5)), word(t, of(12, 5, 5))
	for i, c := range []struct {
		l   []uint64
		r   int
		err api.Errno
	}{
		{nil, 3, api.OK}, {nil, -1, api.OK}, {nil, 13, api.OK}, {nil, math.MinInt, api.OK}, {[]uint64{}, 3, api.OK},
		{[]uint64{x}, 3, api.OK}, {[]uint64{y, x, y, x}, 3, api.OK}, {[]uint64{base}, 0, api.OK}, {[]uint64{finest}, 12, api.OK},
		{[]uint64{x}, 2, api.ErrRes}, {[]uint64{x}, 4, api.ErrRes}, {[]uint64{x}, -1, api.ErrRes}, {[]uint64{x}, 13, api.ErrRes}, {[]uint64{x}, 3 + 1<<32, api.ErrRes}, {[]uint64{x}, math.MinInt, api.ErrRes}, {[]uint64{x}, math.MaxInt, api.ErrRes}, {[]uint64{base}, -1, api.ErrRes}, {[]uint64{finest}, 13, api.ErrRes},
		{[]uint64{x, finer}, 3, api.ErrRes}, {[]uint64{finer, x}, 3, api.ErrRes}, {[]uint64{x, finer}, 4, api.ErrRes}, {[]uint64{x, y, x, y, base}, 3, api.ErrRes},
		{[]uint64{7}, 3, api.ErrWord}, {[]uint64{7}, -1, api.ErrWord}, {[]uint64{7, 0, top}, -1, api.ErrWord}, {[]uint64{x, 7}, 3, api.ErrWord}, {[]uint64{x, y, x, y, 7}, 3, api.ErrWord},
		{[]uint64{x, finer, 7}, 3, api.ErrRes}, {[]uint64{x, 7, finer}, 3, api.ErrWord}, {[]uint64{7, finer}, 3, api.ErrWord}, {[]uint64{finer, 7}, 3, api.ErrRes}, {[]uint64{x, 7}, -1, api.ErrRes}, {[]uint64{7, x}, -1, api.ErrWord},
	} {
		if err := cells.Check(c.l, c.r); err != c.err {
			t.Error(i, c.l, c.r, err)
		}
	}
	for _, w := range noWords {
		for r := -1; r <= 13; r++ {
			if err := cells.Check([]uint64{w}, r); err != api.ErrWord {
				t.Errorf("%x %d %v", w, r, err)
			}
		}
	}
	for r := range 13 {
		w := word(t, of(r, 2, -3))
		for asked := -1; asked <= 13; asked++ {
			want := api.ErrRes
			if asked == r {
				want = api.OK
			}
			if err := cells.Check([]uint64{w, w}, asked); err != want {
				t.Errorf("%d %d %v", r, asked, err)
			}
		}
	}
	if err := cells.Check(slices.Repeat([]uint64{x}, 3*most), 3); err != api.OK {
		t.Error("no bound is told for Check:", err)
	}
}

// Rule 3: nothing that is handed in is another one behind a call, nor the room behind it, and no answer shares memory with it or with another answer, spare room and all.
func TestArgumentsStay(t *testing.T) {
	w := word(t, of(0, 4, 4))
	for _, l := range append(lists(), noWords, []uint64{w, 7, w}) {
		a, isSameA := guarded(l)
		b, isSameB := guarded([]uint64{5, 1, 4, w, 4, top})
		var answers, ahead [][]uint64
		for _, c := range calls {
			there, _ := c.do(a, b)
			back, _ := c.do(b, a)
			answers = append(answers, there, back)
		}
		answers = append(answers, cells.Set(a))
		answers = append(answers, cells.Groups(a)...)
		cells.Has(a, 3)
		cells.Check(a, 3)
		for _, answer := range answers {
			ahead = append(ahead, slices.Clone(answer))
		}
		for i, answer := range answers {
			if !slices.Equal(answer, ahead[i]) {
				t.Error(l, "shares memory with another answer:", i)
			}
			overwrite(answer)
		}
		if !isSameA() || !isSameB() {
			t.Error(l, "is another")
		}
	}
}

// overwrite makes all of l another one, and the room behind it.
func overwrite(l []uint64) {
	l = l[:cap(l)]
	for i := range l {
		l[i] = 99
	}
}

// 7.3: every call ends, and none panics, of lists and numbers at all ends.
func TestEveryCallEnds(t *testing.T) {
	all := append(lists(), noWords, run(0, most+1), run(top-most-5, most), slices.Repeat(noWords, 9), []uint64{word(t, of(0, 1, 1)), word(t, of(12, 1, 1)), 0})
	for _, a := range all {
		cells.Set(a)
		cells.Groups(a)
		for _, w := range noWords {
			cells.Has(a, w)
		}
		for _, r := range []int{math.MinInt, math.MinInt + 1, -1, 0, 1, 12, 13, math.MaxInt - 1, math.MaxInt} {
			cells.Check(a, r)
		}
		for _, b := range all {
			for _, c := range calls {
				c.do(a, b)
			}
		}
	}
}

// 7.1: the calls take cells as they do any words.
func TestOfCells(t *testing.T) {
	kids, _ := cell.Children(of(5, 8, -3))
	var l []uint64
	for _, c := range kids {
		l = append(l, word(t, c))
	}
	mid, rest := l[0], l[1:]
	if got, err := cells.Minus(l, []uint64{mid}); !slices.Equal(got, cells.Set(rest)) || err != api.OK {
		t.Error(got, err)
	}
	if got, err := cells.Union(rest, []uint64{mid}); !slices.Equal(got, cells.Set(l)) || err != api.OK {
		t.Error(got, err)
	}
	if got, err := cells.Meet(rest, l); !slices.Equal(got, cells.Set(rest)) || err != api.OK {
		t.Error(got, err)
	}
	if !cells.Has(l, mid) || cells.Has(rest, mid) || cells.Check(l, 6) != api.OK {
		t.Error(l)
	}
}
