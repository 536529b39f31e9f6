package cells_test

import (
	"slices"
	"testing"

	"apiary/api"
	"apiary/cells"
)

// must tells what a call answers without an error.
func must(t *testing.T, do call, a, b []uint64) []uint64 {
	t.Helper()
	l, err := do(a, b)
	if err != api.OK {
		t.Fatal(a, b, err)
	}
	return l
}

// law is two ways of reckoning that must tell the same.
type law struct {
	name        string
	left, right []uint64
}

func checkLaws(t *testing.T, laws []law) {
	t.Helper()
	for _, x := range laws {
		if !slices.Equal(x.left, x.right) {
			t.Fatal(x.name, x.left, x.right)
		}
	}
}

// 7.2: what holds of one set, and of it with none.
func TestLawsOfOne(t *testing.T) {
	for _, a := range lists() {
		set := cells.Set(a)
		checkLaws(t, []law{
			{"Set of Set", cells.Set(set), set},
			{"a or a", must(t, cells.Union, a, a), set},
			{"a and a", must(t, cells.Meet, a, a), set},
			{"a less a", must(t, cells.Minus, a, a), nil},
			{"a or none", must(t, cells.Union, a, nil), set},
			{"none or a", must(t, cells.Union, nil, a), set},
			{"a and none", must(t, cells.Meet, a, nil), nil},
			{"none and a", must(t, cells.Meet, nil, a), nil},
			{"a less none", must(t, cells.Minus, a, nil), set},
			{"none less a", must(t, cells.Minus, nil, a), nil},
		})
	}
}

// 7.2: what holds of two sets.
func TestLawsOfTwo(t *testing.T) {
	for _, a := range lists() {
		for _, b := range lists() {
			union, meet, minus, back := must(t, cells.Union, a, b), must(t, cells.Meet, a, b), must(t, cells.Minus, a, b), must(t, cells.Minus, b, a)
			checkLaws(t, []law{
				{"or, there and back", union, must(t, cells.Union, b, a)},
				{"and, there and back", meet, must(t, cells.Meet, b, a)},
				{"or of Sets", union, must(t, cells.Union, cells.Set(a), cells.Set(b))},
				{"and of Sets", meet, must(t, cells.Meet, cells.Set(a), cells.Set(b))},
				{"less of Sets", minus, must(t, cells.Minus, cells.Set(a), cells.Set(b))},
				{"a or both", must(t, cells.Union, a, meet), cells.Set(a)},
				{"a and any", must(t, cells.Meet, a, union), cells.Set(a)},
				{"a's own parts", must(t, cells.Union, minus, meet), cells.Set(a)},
				{"all three parts", must(t, cells.Union, minus, must(t, cells.Union, meet, back)), union},
				{"parts apart", must(t, cells.Meet, minus, b), nil},
				{"sides apart", must(t, cells.Meet, minus, back), nil},
				{"and by less twice", must(t, cells.Minus, a, minus), meet},
				{"less of any", must(t, cells.Minus, union, b), minus},
				{"less of both", must(t, cells.Minus, a, meet), minus},
			})
			if len(union)+len(meet) != len(cells.Set(a))+len(cells.Set(b)) {
				t.Fatal(a, b, "sizes", len(union), len(meet))
			}
			for _, w := range append(slices.Clone(a), b...) {
				if !cells.Has(union, w) || cells.Has(meet, w) != (cells.Has(a, w) && cells.Has(b, w)) || cells.Has(minus, w) != (cells.Has(a, w) && !cells.Has(b, w)) {
					t.Fatal(a, b, "Has", w)
				}
			}
		}
	}
}

// 7.2: what holds of three sets.
func TestLawsOfThree(t *testing.T) {
	all := lists()
	for i, a := range all {
		for _, b := range all {
			c := all[(7*i+3)%len(all)]
			aOrB, aAndB, bOrC, bAndC := must(t, cells.Union, a, b), must(t, cells.Meet, a, b), must(t, cells.Union, b, c), must(t, cells.Meet, b, c)
			aOrC, aAndC, aLessB, aLessC := must(t, cells.Union, a, c), must(t, cells.Meet, a, c), must(t, cells.Minus, a, b), must(t, cells.Minus, a, c)
			checkLaws(t, []law{
				{"or of three", must(t, cells.Union, aOrB, c), must(t, cells.Union, a, bOrC)},
				{"and of three", must(t, cells.Meet, aAndB, c), must(t, cells.Meet, a, bAndC)},
				{"and over or", must(t, cells.Meet, a, bOrC), must(t, cells.Union, aAndB, aAndC)},
				{"or over and", must(t, cells.Union, a, bAndC), must(t, cells.Meet, aOrB, aOrC)},
				{"less of or", must(t, cells.Minus, a, bOrC), must(t, cells.Meet, aLessB, aLessC)},
				{"less of and", must(t, cells.Minus, a, bAndC), must(t, cells.Union, aLessB, aLessC)},
				{"less twice", must(t, cells.Minus, aLessB, c), must(t, cells.Minus, a, bOrC)},
				{"and, less", must(t, cells.Minus, aAndB, c), must(t, cells.Meet, a, must(t, cells.Minus, b, c))},
			})
		}
	}
}
