package cells_test

import (
	"slices"
	"testing"

	"apiary/api"
	"apiary/cell"
	"apiary/cells"
	"apiary/ident"
)

// kidsOf tells the words of the seven below c.
func kidsOf(t *testing.T, c api.Cell) []uint64 {
	t.Helper()
	kids, err := cell.Children(c)
	if err != api.OK {
		t.Fatal(c, err)
	}
	var l []uint64
	for _, kid := range kids {
		l = append(l, word(t, kid))
	}
	return l
}

// families is words of all sizes, some of whose brothers are there too, with what is no word among them, spread, and most of them twice.
func families(t *testing.T) []uint64 {
	l := slices.Clone(noWords)
	for r := range 12 {
		for _, z := range []api.E{{}, {A: 1}, {A: -1, B: 1}, {A: 77, B: -30}} {
			l = append(l, word(t, api.Cell{R: r, Z: z}))
			kids := kidsOf(t, api.Cell{R: r, Z: z})
			l = append(l, kids[:1+(r*5+int(z.A)&7)%7]...)
		}
	}
	for _, a := range []int64{-512, -1, 0, 511} {
		l = append(l, word(t, of(0, a, 3)), word(t, of(0, 3, a)))
	}
	l = append(l, l[3:]...)
	s := uint64(9)
	for i := range l {
		j := int(next(&s)) % (i + 1)
		l[i], l[j] = l[j], l[i]
	}
	return l
}

// isBrother tells if a and b are words of unlike or like cells of one Parent, as cell tells it.
func isBrother(a, b uint64) bool {
	x, _ := ident.Cell(a)
	y, _ := ident.Cell(b)
	aboveX, errX := cell.Parent(x)
	aboveY, errY := cell.Parent(y)
	return errX == api.OK && errY == api.OK && aboveX == aboveY
}

// 7.1: Groups, by hand.
func TestGroupsByHand(t *testing.T) {
	base, other, third := word(t, of(0, 1, 1)), word(t, of(0, 2, 2)), word(t, of(0, 1, 2))
	kids, cousins, finest := kidsOf(t, of(2, 4, -3)), kidsOf(t, of(2, 5, -3)), kidsOf(t, of(11, 4, -3))
	for i, x := range []struct {
		l    []uint64
		want [][]uint64
	}{
		{nil, nil}, {[]uint64{1, 2}, nil}, {noWords, nil},
		{[]uint64{base}, [][]uint64{{base}}},
		{[]uint64{other, base, other, base}, [][]uint64{{base}, {other}}},
		{[]uint64{other, third, 0, base}, [][]uint64{{base}, {third}, {other}}},
		{[]uint64{kids[3], kids[0], kids[3]}, [][]uint64{{kids[0], kids[3]}}},
		{append([]uint64{7, top}, kids...), [][]uint64{kids}},
		{[]uint64{cousins[2], kids[6], cousins[0], kids[0], 5}, [][]uint64{{kids[0], kids[6]}, {cousins[0], cousins[2]}}},
		{[]uint64{finest[1], kids[1], base, cousins[1], finest[0], other}, [][]uint64{{base}, {other}, {kids[1]}, {cousins[1]}, {finest[0], finest[1]}}},
		{append(slices.Clone(kids), word(t, of(2, 4, -3))), [][]uint64{{word(t, of(2, 4, -3))}, kids}},
	} {
		if kids[0] > cousins[0] {
			t.Fatal("cousins are ahead")
		}
		groups := cells.Groups(x.l)
		if !slices.EqualFunc(groups, x.want, slices.Equal) {
			t.Errorf("%d %x %x", i, groups, x.want)
		}
	}
}

// 7.1: Groups of many words: each word is in just one, those of one Parent are together, and all is in order.
func TestGroups(t *testing.T) {
	l := families(t)
	for n := 0; n <= len(l); n += 13 {
		checkGroups(t, l[:n])
		checkGroups(t, l[n:])
	}
	checkGroups(t, kidsOf(t, of(11, 5, 5)))
}

func checkGroups(t *testing.T, l []uint64) {
	t.Helper()
	var all, want []uint64
	for _, w := range cells.Set(l) {
		if ident.Ok(w) {
			want = append(want, w)
		}
	}
	groups := cells.Groups(l)
	for _, g := range groups {
		if len(g) == 0 || len(g) > 7 {
			t.Errorf("%d words in a group", len(g))
		}
		all = append(all, g...)
		for _, w := range g[1:] {
			if !isBrother(g[0], w) {
				t.Errorf("%x is with %x", w, g[0])
			}
		}
	}
	if !slices.Equal(all, want) {
		t.Errorf("%x and are %x", all, want)
	}
	for i, g := range groups {
		for _, h := range groups[:i] {
			if isBrother(g[0], h[0]) {
				t.Errorf("%x is not with %x", g[0], h[0])
			}
		}
	}
}

// 7.1: no bound is told for Groups, and those of 20,000 words and more are told.
func TestManyGroups(t *testing.T) {
	var l []uint64
	for a := range int64(60) {
		for b := range int64(60) {
			l = append(l, kidsOf(t, of(7, a, b))...)
		}
	}
	slices.Reverse(l)
	groups := cells.Groups(l)
	if len(l) != 25200 || len(groups) != 3600 {
		t.Error(len(l), len(groups))
	}
	for _, g := range groups {
		if len(g) != 7 || !isBrother(g[0], g[6]) || !rises(g) {
			t.Errorf("%x", g)
		}
	}
}

// Rule 3: no two groups share memory, spare room and all.
func TestGroupsShareNothing(t *testing.T) {
	groups := cells.Groups(families(t))
	var ahead [][]uint64
	for _, g := range groups {
		ahead = append(ahead, slices.Clone(g))
	}
	for i, g := range groups {
		if !slices.Equal(g, ahead[i]) {
			t.Errorf("%x and was %x", g, ahead[i])
		}
		overwrite(g)
	}
}
