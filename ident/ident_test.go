package ident_test

import (
	"fmt"
	"math"
	"math/bits"
	"regexp"
	"slices"
	"strconv"
	"strings"
	"testing"

	"apiary/api"
	"apiary/cell"
	"apiary/ident"
)

const (
	hi  = math.MaxInt64
	lo  = math.MinInt64
	top = 1 << 30
)

func of(r int, a, b int64) api.Cell { return api.Cell{R: r, Z: api.E{A: a, B: b}} }

// named is a cell and what 5.1 says its word is.
type named struct {
	c api.Cell
	w uint64
}

// spelt is a word put together of its bits' texts.
func spelt(base api.E, digits []int) uint64 {
	s := fmt.Sprintf("0001%04b%010b%010b", len(digits), base.A+512, base.B+512)
	for _, k := range digits {
		s += fmt.Sprintf("%03b", k)
	}
	s += strings.Repeat("111", 12-len(digits))
	w, err := strconv.ParseUint(s, 2, 64)
	if err != nil || len(s) != 64 {
		panic(s)
	}
	return w
}

// lineOf is a base, and each of the twelve below it, by digits.
func lineOf(base api.E, digit func(r int) int) []named {
	c := api.Cell{Z: base}
	var digits []int
	l := []named{{c, spelt(base, nil)}}
	for r := 1; r <= 12; r++ {
		digits = append(digits, digit(r))
		kids, _ := cell.Children(c)
		c = kids[digits[r-1]]
		l = append(l, named{c, spelt(base, digits)})
	}
	return l
}

// some is cells below bases at the ends and between: of one digit again and again, and of digits that are spread, the same ones each time.
func some() []named {
	var l []named
	s := uint64(5)
	for _, a := range []int64{-512, -511, -77, -1, 0, 1, 5, 256, 511} {
		for _, b := range []int64{-512, -200, -1, 0, 2, 255, 511} {
			base := api.E{A: a, B: b}
			for k := range 7 {
				l = append(l, lineOf(base, func(int) int { return k })...)
			}
			for range 3 {
				l = append(l, lineOf(base, func(int) int {
					s = s*6364136223846793005 + 1442695040888963407
					return int(s>>33) % 7
				})...)
			}
		}
	}
	return l
}

// patterns say of each size what the bits of its words are.
var patterns = func() (l []*regexp.Regexp) {
	for r := range 13 {
		l = append(l, regexp.MustCompile(fmt.Sprintf("^0001%04b[01]{20}(000|001|010|011|100|101|110){%d}(111){%d}$", r, r, 12-r)))
	}
	return l
}()

// sizeOf is the size of a word, by patterns; -1 of none.
func sizeOf(w uint64) int {
	s := fmt.Sprintf("%064b", w)
	return slices.IndexFunc(patterns, func(p *regexp.Regexp) bool { return p.MatchString(s) })
}

// suspects is 64 bits at the ends, words, and words with one or two bits turned or with a part filled otherwise: most of them are none.
func suspects() []uint64 {
	l := []uint64{0, 1, 0xa5, 1 << 60, 1<<60 - 1, 1 << 63, 1<<63 - 1, math.MaxUint64, 0x1080200fffffffff, 0x1fffffffffffffff, 0x2080200fffffffff}
	for n, x := range some() {
		if n%211 != 0 {
			continue
		}
		for i := range 64 {
			for j := range i + 1 {
				l = append(l, x.w^1<<i, x.w^1<<i^1<<j)
			}
		}
		for r := range uint64(16) {
			l = append(l, x.w&^(15<<56)|r<<56, x.w&^(15<<60)|r<<60)
		}
		for r := 1; r <= 12; r++ {
			for k := range uint64(8) {
				l = append(l, x.w&^(7<<(36-3*r))|k<<(36-3*r))
			}
		}
	}
	s := uint64(3)
	for range 2000 {
		s = s*6364136223846793005 + 1442695040888963407
		w := s ^ bits.Reverse64(s*3)
		l = append(l, w, w>>4|1<<60, w&(1<<56-1)|1<<60|12<<56, w|1<<36-1, w>>4&^(15<<56)|1<<60|1<<36-1)
	}
	return l
}

// noCells is what is no cell: of no size, with parts too great, or of no base.
func noCells() []api.Cell {
	var l []api.Cell
	for _, r := range []int{-1, 13, 14, 15, 16, -13, 255, 256, 1 << 32, math.MaxInt, math.MinInt} {
		l = append(l, of(r, 0, 0), of(r, 1, -1), of(r, top, 0), of(r, lo, hi))
	}
	for r := 0; r <= 12; r++ {
		for _, n := range []int64{top, -top, top + 1, -top - 1, 1 << 31, 1 << 32, -1 << 40, lo, lo + 1, hi} {
			l = append(l, of(r, n, 0), of(r, 0, n), of(r, n, n), of(r, n, -n), of(r, n, 1))
		}
	}
	for _, n := range []int64{512, 513, 1023, 1024, 1536, -513, -514, -1024, -1025, -1536} {
		l = append(l, of(0, n, 0), of(0, 0, n), of(0, n, n), of(0, n, 511), of(0, -512, n))
	}
	return append(l, of(1, 510, 2046), of(1, 513, 2044))
}

// 5.1: what a word has.
func TestWordsByHand(t *testing.T) {
	for _, x := range []named{
		{of(0, 0, 0), 0x1080200fffffffff}, {of(0, 1, 0), 0x1080600fffffffff}, {of(0, 0, 1), 0x1080201fffffffff},
		{of(0, -512, -512), 0x1000000fffffffff}, {of(0, -512, 511), 0x10003fffffffffff}, {of(0, 511, -512), 0x10ffc00fffffffff}, {of(0, 511, 511), 0x10ffffffffffffff},
		{of(1, 0, 0), 0x11802001ffffffff}, {of(1, 1, 0), 0x11802003ffffffff}, {of(1, 1, -1), 0x1180200dffffffff}, {of(1, 2, 1), 0x11806001ffffffff},
		{of(2, 0, 1), 0x12802000bfffffff}, {of(2, 3, 1), 0x128020027fffffff}, {of(2, 1, 1), 0x128020033fffffff}, {of(2, -1, 0), 0x128020013fffffff},
		{of(12, 0, 0), 0x1c80200000000000}, {of(12, 1, 0), 0x1c80200000000001}, {of(12, 1, -1), 0x1c80200000000006}, {of(12, 3, 0), 0x1c8020000000000e},
	} {
		if w, err := ident.Of(x.c); w != x.w || err != api.OK {
			t.Errorf("%v %016x %v", x.c, w, err)
		}
		if c, err := ident.Cell(x.w); c != x.c || err != api.OK {
			t.Errorf("%016x %v %v", x.w, c, err)
		}
	}
}

// 5.1, 5.2, W5: Of tells a cell's word, and Cell leads back.
func TestOfAndCell(t *testing.T) {
	for _, x := range some() {
		if w, err := ident.Of(x.c); w != x.w || err != api.OK {
			t.Errorf("%v %016x %016x %v", x.c, w, x.w, err)
		}
		if c, err := ident.Cell(x.w); c != x.c || err != api.OK {
			t.Errorf("%016x %v %v %v", x.w, c, x.c, err)
		}
		if !ident.Ok(x.w) || ident.Res(x.w) != x.c.R {
			t.Errorf("%016x %v", x.w, ident.Res(x.w))
		}
	}
}

// 5.1: a word's digits are those of the cells that Up leads to, and its base is Base.
func TestWordsOfPoints(t *testing.T) {
	s := uint64(8)
	for range 300 {
		s = s*6364136223846793005 + 1442695040888963407
		for r := range 13 {
			c, _ := cell.Of(int64(s>>34), int64(s>>3)&(top-1), r)
			base, _ := cell.Base(c)
			var digits []int
			for k := 1; k <= r; k++ {
				up, _ := cell.Up(c, k)
				digits = append(digits, cell.Digit(up))
			}
			if w, err := ident.Of(c); w != spelt(base.Z, digits) || err != api.OK {
				t.Errorf("%v %016x %v", c, w, err)
			}
		}
	}
}

// 5.1: what is no cell has no word.
func TestOfRefuses(t *testing.T) {
	for _, c := range noCells() {
		if cell.Ok(c) {
			t.Fatal("is a cell:", c)
		}
		if w, err := ident.Of(c); w != 0 || err != api.ErrCell {
			t.Errorf("%v %016x %v", c, w, err)
		}
	}
}

// 5.1, W6: Cell, Ok, Res and Parent take words, and nothing else.
func TestWhatIsNoWord(t *testing.T) {
	found := [2]int{}
	for _, w := range suspects() {
		r := sizeOf(w)
		c, err := ident.Cell(w)
		p, parentErr := ident.Parent(w)
		if ident.Ok(w) != (r >= 0) || ident.Res(w) != r {
			t.Errorf("%016x %d and is %d", w, ident.Res(w), r)
		}
		if r >= 0 {
			found[0]++
			if back, backErr := ident.Of(c); err != api.OK || !cell.Ok(c) || c.R != r || back != w || backErr != api.OK {
				t.Errorf("%016x %v %v %016x", w, c, err, back)
			}
			continue
		}
		found[1]++
		if c != (api.Cell{}) || err != api.ErrWord || p != 0 || parentErr != api.ErrWord {
			t.Errorf("%016x %v %v %016x %v", w, c, err, p, parentErr)
		}
	}
	if found[0] < 1000 || found[1] < 10000 {
		t.Error("words and others:", found)
	}
}

// 5.1: each thing that a word must not be, by hand.
func TestNoWordsByHand(t *testing.T) {
	for _, w := range []uint64{
		0, math.MaxUint64,
		0x0080200fffffffff, 0x2080200fffffffff, 0x3080200fffffffff, 0x5080200fffffffff, 0x9080200fffffffff, 0xf080200fffffffff, // another mark
		0x1d80200000000000, 0x1e80200000000000, 0x1f80200000000000, 0x1d80200fffffffff, // a size above 12
		0x1180200fffffffff, 0x1c80200fffffffff, 0x1c80200000000007, 0x12802001ffffffff, 0x12802009ffffffff, 0x1280200e3fffffff, // no digit where one must be
		0x10802001ffffffff, 0x1080200ffffffffe, 0x1080200000000000, 0x11802001fffffff8, 0x128020000fffffff, 0x1b80200000000000, // a digit where none may be
	} {
		if c, err := ident.Cell(w); ident.Ok(w) || ident.Res(w) != -1 || c != (api.Cell{}) || err != api.ErrWord {
			t.Errorf("%016x %v %v", w, c, err)
		}
	}
}

// 5.3: every call ends, and none panics, of cells, words and texts at all ends.
func TestEveryCallEnds(t *testing.T) {
	numbers := []int64{lo, lo + 1, -1 << 62, -top - 1, -top, -513, -512, -1, 0, 1, 511, 512, top, top + 1, 1 << 62, hi - 1, hi}
	sizes := []int{math.MinInt, math.MinInt + 1, -1 << 40, -1, 0, 1, 6, 11, 12, 13, 1 << 40, math.MaxInt - 1, math.MaxInt}
	for _, a := range numbers {
		for _, b := range numbers {
			for _, r := range sizes {
				ident.Of(of(r, a, b))
			}
			for _, w := range []uint64{uint64(a), uint64(a) ^ uint64(b), uint64(a) | uint64(b)<<32} {
				ident.Cell(w)
				ident.Ok(w)
				ident.Res(w)
				ident.Parse(ident.Text(w))
				ident.Parent(w)
			}
		}
	}
	for _, n := range []int{0, 1, 15, 16, 17, 63, 64, 1 << 20} {
		for _, s := range []string{"0", "f", "g", "\x00", "\xff", "-", "_", "é", "٣"} {
			ident.Parse(strings.Repeat(s, n))
		}
	}
}
