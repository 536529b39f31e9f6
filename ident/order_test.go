package ident_test

import (
	"slices"
	"testing"

	"apiary/api"
	"apiary/cell"
	"apiary/ident"
)

// 5.1: Parent tells the word of the cell's Parent, and refuses as it does.
func TestParent(t *testing.T) {
	l := some()
	for n, x := range l {
		p, err := ident.Parent(x.w)
		if x.c.R == 0 {
			if p != 0 || err != api.ErrParent {
				t.Errorf("%016x %016x %v", x.w, p, err)
			}
			continue
		}
		above, _ := cell.Parent(x.c)
		if p != l[n-1].w || err != api.OK || l[n-1].c != above {
			t.Errorf("%016x %016x %016x %v", x.w, p, l[n-1].w, err)
		}
	}
	for _, w := range suspects() {
		c, _ := ident.Cell(w)
		above, err := cell.Parent(c)
		if sizeOf(w) < 0 {
			err = api.ErrWord
		}
		p, got := ident.Parent(w)
		if got != err {
			t.Errorf("%016x %v and is %v", w, got, err)
		}
		if back, _ := ident.Of(above); err == api.OK && p != back || err != api.OK && p != 0 {
			t.Errorf("%016x %016x", w, p)
		}
	}
	for w, want := range map[uint64]uint64{
		0x11802003ffffffff: 0x1080200fffffffff, 0x1c80200000000000: 0x1b80200000000007, 0x1c80200db6db6db6: 0x1b80200db6db6db7, 0x128020047fffffff: 0x11802005ffffffff,
	} {
		if p, err := ident.Parent(w); p != want || err != api.OK {
			t.Errorf("%016x %016x %v", w, p, err)
		}
	}
}

// 5.2: unlike cells have unlike words, and no two words are of one cell: all cells about 0, of each size.
func TestOneToOne(t *testing.T) {
	words := map[uint64]api.Cell{}
	cells := map[api.Cell]uint64{}
	for r := range 13 {
		for a := int64(-40); a <= 40; a++ {
			for b := int64(-40); b <= 40; b++ {
				c := of(r, a, b)
				w, err := ident.Of(c)
				if err != api.OK || sizeOf(w) != r {
					t.Fatal(c, w, err)
				}
				if other, is := words[w]; is {
					t.Errorf("%016x %v %v", w, c, other)
				}
				words[w] = c
			}
		}
	}
	for w := range words {
		c, _ := ident.Cell(w)
		if other, is := cells[c]; is {
			t.Errorf("%v %016x %016x", c, w, other)
		}
		cells[c] = w
		if c != words[w] {
			t.Errorf("%016x %v %v", w, c, words[w])
		}
	}
}

// 5.2: all bases have words, each its own, and these rise by A, then B.
func TestWordsOfBases(t *testing.T) {
	ahead := uint64(0)
	for a := int64(-512); a <= 511; a++ {
		for b := int64(-512); b <= 511; b++ {
			w, err := ident.Of(of(0, a, b))
			if err != api.OK || w <= ahead {
				t.Fatalf("%d %d %016x %016x %v", a, b, w, ahead, err)
			}
			if c, err := ident.Cell(w); c != of(0, a, b) || err != api.OK {
				t.Fatalf("%016x %v %v", w, c, err)
			}
			ahead = w
		}
	}
}

// wordsOf is words of one size above 0, rising: those of some, each with its six brothers.
func wordsOf(r int) []uint64 {
	var l []uint64
	for _, x := range some() {
		if x.c.R != r {
			continue
		}
		p, _ := cell.Parent(x.c)
		kids, _ := cell.Children(p)
		for _, c := range kids {
			w, _ := ident.Of(c)
			l = append(l, w)
		}
	}
	slices.Sort(l)
	return slices.Compact(l)
}

// 5.2: of words that rise the parents' rise or stay, and those of one parent lie together, by their digits.
func TestWordsRiseAsTheirParents(t *testing.T) {
	for r := 1; r <= 12; r++ {
		l := wordsOf(r)
		if len(l) < 300 {
			t.Error(r, len(l))
		}
		lastParent, lastDigit := uint64(0), -1
		for _, w := range l {
			p, err := ident.Parent(w)
			c, _ := ident.Cell(w)
			digit := cell.Digit(c)
			if err != api.OK || p < lastParent || p == lastParent && digit != lastDigit+1 || p > lastParent && digit != 0 {
				t.Errorf("%016x %016x %d %016x %d %v", w, p, digit, lastParent, lastDigit, err)
			}
			lastParent, lastDigit = p, digit
		}
	}
}
