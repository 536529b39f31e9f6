package plane_test

import (
	"slices"
	"testing"

	"apiary/api"
	"apiary/plane"
)

// noNumbers is numbers of which a part is too great for a centre.
func noNumbers() []api.E {
	var l []api.E
	for _, n := range []int64{top + 1, -top - 1, 1 << 31, 1 << 32, -1 << 40, hi, lo, lo + 1} {
		l = append(l, e(n, 0), e(0, n), e(n, n), e(n, -n), e(top, n), e(n, -top))
	}
	return l
}

// someNumbers is numbers at the ends of what a centre may be, and small ones.
func someNumbers() []api.E {
	var l []api.E
	for _, a := range []int64{-top, -top + 1, -99991, -2, -1, 0, 1, 3, 31337, 1 << 29, top - 1, top} {
		for _, b := range []int64{-top, -7654321, -3, -1, 0, 1, 2, 5, top - 1, top} {
			l = append(l, e(a, b))
		}
	}
	return l
}

// 3.1: Centre is where Beta times z lies.
func TestCentre(t *testing.T) {
	for r := 0; r <= 12; r++ {
		for _, z := range someNumbers() {
			x, y, ok := plane.Centre(z, r)
			if want := place(mul(step(r), z)); !ok || [2]int64{x, y} != want {
				t.Error(z, r, x, y, ok, "and is", want)
			}
		}
	}
	for _, x := range []struct {
		z    api.E
		r    int
		want [2]int64
	}{
		{e(3, -2), 12, [2]int64{104, -90}},
		{e(1, 0), 11, [2]int64{130, 45}},
		{e(0, 1), 11, [2]int64{26, 135}},
		{e(1, 0), 10, [2]int64{286, 225}},
		{e(top, top), 12, [2]int64{78 * top, 45 * top}},
		{e(-top, top), 12, [2]int64{-26 * top, 45 * top}},
	} {
		if a, b, ok := plane.Centre(x.z, x.r); [2]int64{a, b} != x.want || !ok {
			t.Error(x, a, b, ok)
		}
	}
}

// 3.1: Hex is the six corners in their order, in thirds.
func TestHex(t *testing.T) {
	ways := []api.E{{A: 1, B: 1}, {A: -1, B: 2}, {A: -2, B: 1}, {A: -1, B: -1}, {A: 1, B: -2}, {A: 2, B: -1}}
	for r := 0; r <= 12; r++ {
		for _, z := range someNumbers() {
			l, ok := plane.Hex(z, r)
			if !ok || len(l) != 6 {
				t.Fatal(z, r, l, ok)
			}
			for i, way := range ways {
				if want := place(mul(step(r), add(mul(z, e(3, 0)), way))); l[i] != want {
					t.Error(z, r, i, l[i], "and is", want)
				}
			}
		}
	}
	for _, x := range []struct {
		z    api.E
		r    int
		want [][2]int64
	}{
		{e(0, 0), 12, [][2]int64{{78, 45}, {0, 90}, {-78, 45}, {-78, -45}, {0, -90}, {78, -45}}},
		{e(1, 0), 12, [][2]int64{{234, 45}, {156, 90}, {78, 45}, {78, -45}, {156, -90}, {234, -45}}},
		{e(0, 0), 11, [][2]int64{{156, 180}, {-78, 225}, {-234, 45}, {-156, -180}, {78, -225}, {234, -45}}},
	} {
		if l, ok := plane.Hex(x.z, x.r); !slices.Equal(l, x.want) || !ok {
			t.Error(x, l, ok)
		}
	}
}

// 3.1: what is nearest to two or three numbers has their common corners.
func TestHexesFit(t *testing.T) {
	for r := 0; r <= 12; r++ {
		for _, z := range []api.E{e(0, 0), e(5, -3), e(-77, 1234), e(99991, -100003)} {
			l, _ := plane.Hex(z, r)
			for i, corner := range l {
				one, _ := plane.Hex(add(z, units[i]), r)
				two, _ := plane.Hex(add(z, units[(i+1)%6]), r)
				if one[(i+2)%6] != corner || two[(i+4)%6] != corner {
					t.Error(z, r, i, corner, one, two)
				}
			}
		}
	}
}

// 3.1: what Hex answers is a list of its own each time.
func TestHexIsNew(t *testing.T) {
	first, _ := plane.Hex(e(1, 2), 9)
	kept := slices.Clone(first)
	for i := range first[:cap(first)] {
		first[:cap(first)][i] = [2]int64{hi, lo}
	}
	if l, _ := plane.Hex(e(1, 2), 9); !slices.Equal(l, kept) {
		t.Error(l, kept)
	}
}

// 3.1: Centre and Hex refuse what is no resolution, and numbers with parts that are too great.
func TestCentreRefuses(t *testing.T) {
	refuse := func(z api.E, r int) {
		t.Helper()
		if x, y, ok := plane.Centre(z, r); x != 0 || y != 0 || ok {
			t.Error("Centre", z, r, x, y, ok)
		}
		if l, ok := plane.Hex(z, r); len(l) != 0 || ok {
			t.Error("Hex", z, r, l, ok)
		}
	}
	for _, r := range noSizes() {
		for _, z := range []api.E{e(0, 0), e(1, -1), e(top, top), e(lo, hi)} {
			refuse(z, r)
		}
	}
	for _, z := range noNumbers() {
		for r := -1; r <= 13; r++ {
			refuse(z, r)
		}
	}
}

// 3.2: each centre is nearest to itself.
func TestCentreIsNearestToItself(t *testing.T) {
	for r := 0; r <= 12; r++ {
		found := 0
		for _, p := range somePoints() {
			about, _ := plane.Near(p[0], p[1], r)
			for _, way := range append(units, e(0, 0)) {
				z := add(about, way)
				x, y, ok := plane.Centre(z, r)
				if !ok {
					t.Fatal(z, r)
				}
				if !plane.Ok(x, y) {
					continue
				}
				found++
				if back, ok := plane.Near(x, y, r); back != z || !ok {
					t.Error(z, r, "lies at", x, y, "and there is", back, ok)
				}
			}
		}
		if found < 1000 {
			t.Error(r, found)
		}
	}
}
