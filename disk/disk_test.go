package disk_test

import (
	"bytes"
	"math"
	"strings"
	"testing"

	"apiary/api"
	"apiary/disk"
)

const (
	hi = math.MaxInt
	lo = math.MinInt
)

// told tells all bytes of a Disk, noughts as dots; of one that doesn't tell them the error.
func told(d *disk.Disk) string {
	b, err := d.Read(0, d.Size())
	if err != api.OK {
		return err.Error()
	}
	return strings.ReplaceAll(string(b), "\x00", ".")
}

// with tells a Disk of noughts in which s lasts.
func with(t *testing.T, s string) *disk.Disk {
	t.Helper()
	d := disk.New(len(s))
	for i := range s {
		if s[i] != '.' {
			write(t, d, i, s[i:i+1])
		}
	}
	sync(t, d)
	return d
}

func write(t *testing.T, d *disk.Disk, at int, s string) {
	t.Helper()
	if err := d.Write(at, []byte(s)); err != api.OK {
		t.Error("Write", at, s, err)
	}
}

func sync(t *testing.T, d *disk.Disk) {
	t.Helper()
	if err := d.Sync(); err != api.OK {
		t.Error("Sync", err)
	}
}

// holds tells where a Disk is not as is asked.
func holds(t *testing.T, d *disk.Disk, want string, waits int, dead bool) {
	t.Helper()
	if told(d) != want || d.Waits() != waits || d.Dead() != dead {
		t.Error(told(d), d.Waits(), d.Dead(), "not", want, waits, dead)
	}
}

// 12.1: New has n bytes, no fewer than none and no more than 1,000,000, and all are 0.
func TestNew(t *testing.T) {
	for _, x := range [][2]int{
		{lo, 0}, {lo + 1, 0}, {-1000000, 0}, {-1, 0}, {0, 0}, {1, 1}, {2, 2}, {255, 255}, {999999, 999999}, {1000000, 1000000},
		{1000001, 1000000}, {1 << 31, 1000000}, {1 << 32, 1000000}, {1<<32 + 5, 1000000}, {1 << 62, 1000000}, {hi, 1000000},
	} {
		d := disk.New(x[0])
		if d.Size() != x[1] || d.Waits() != 0 || d.Dead() {
			t.Error(x, d.Size(), d.Waits(), d.Dead())
		}
		if b, err := d.Read(0, x[1]); err != api.OK || !bytes.Equal(b, make([]byte, x[1])) {
			t.Error(x, len(b), err)
		}
		if b, err := d.Read(0, x[1]+1); err != api.ErrArg || len(b) != 0 {
			t.Error(x, len(b), err)
		}
		d.Crash(hi)
		if b, err := d.Read(0, x[1]); err != api.OK || !bytes.Equal(b, make([]byte, x[1])) {
			t.Error(x, len(b), err)
		}
	}
}

// 12.1: Read tells the bytes from at on, as they are written, if they last or not.
func TestRead(t *testing.T) {
	d := with(t, "abcdef")
	write(t, d, 2, "XY")
	for at := 0; at <= 6; at++ {
		for n := 0; at+n <= 6; n++ {
			if b, err := d.Read(at, n); string(b) != "abXYef"[at:at+n] || err != api.OK {
				t.Error(at, n, string(b), err)
			}
		}
	}
	holds(t, d, "abXYef", 2, false)
}

// outside is places and lengths that are not all there, of a Disk of 6 bytes.
var outside = [][2]int{
	{-1, 0}, {-1, 1}, {-1, 2}, {-6, 6}, {-1, 7}, {0, 7}, {1, 6}, {5, 2}, {6, 1}, {7, 0}, {7, 1}, {8, 0},
	{1 << 31, 1}, {1 << 32, 0}, {1<<32 + 1, 1}, {1 << 62, 2}, {hi, 0}, {hi, 1}, {hi - 1, 2}, {hi - 5, 6}, {lo, 0}, {lo, 1}, {lo + 1, 6},
	{0, -1}, {1, -1}, {6, -6}, {7, -1}, {-1, -1}, {6, lo}, {0, lo}, {lo, lo}, {hi, lo}, {0, hi}, {1, hi}, {6, hi}, {7, hi}, {hi, hi}, {1, 1 << 62}, {1, 1 << 32},
}

// 12.1: Read and Write answer ErrArg of what is not all there, and do nothing.
func TestOutside(t *testing.T) {
	d := with(t, "abcdef")
	write(t, d, 0, "X")
	for _, x := range outside {
		if b, err := d.Read(x[0], x[1]); len(b) != 0 || err != api.ErrArg {
			t.Error("Read", x, b, err)
		}
		// No list has the other lengths.
		if x[1] < 0 || x[1] > 7 {
			continue
		}
		if err := d.Write(x[0], bytes.Repeat([]byte("z"), x[1])); err != api.ErrArg {
			t.Error("Write", x, err)
		}
		holds(t, d, "Xbcdef", 1, false)
	}
	d.Crash(9)
	holds(t, d, "Xbcdef", 0, false)
}

// 12.1: a Disk of no bytes has a place for no bytes.
func TestNoBytes(t *testing.T) {
	d := disk.New(0)
	write(t, d, 0, "")
	sync(t, d)
	for _, at := range []int{-1, 1, hi, lo} {
		if b, err := d.Read(at, 0); len(b) != 0 || err != api.ErrArg {
			t.Error(at, b, err)
		}
		if err := d.Write(at, nil); err != api.ErrArg {
			t.Error(at, err)
		}
	}
	if err := d.Write(0, []byte("a")); err != api.ErrArg {
		t.Error(err)
	}
	d.Crash(1)
	holds(t, d, "", 0, false)
}

// 12.1: what is written waits, byte by byte, as often as a byte is written, till a Sync.
func TestWriteWaits(t *testing.T) {
	d := disk.New(6)
	for _, x := range []struct {
		at    int
		s     string
		want  string
		waits int
	}{
		{0, "ab", "ab....", 2},
		{4, "ef", "ab..ef", 4},
		{6, "", "ab..ef", 4},
		{0, "", "ab..ef", 4},
		{1, "BCDE", "aBCDEf", 8},
		{1, "BCDE", "aBCDEf", 12},
		{0, "ghijkl", "ghijkl", 18},
		{5, "\x00", "ghijk.", 19},
		{0, "\xff\x80", "\xff\x80ijk.", 21},
	} {
		write(t, d, x.at, x.s)
		holds(t, d, x.want, x.waits, false)
	}
	sync(t, d)
	holds(t, d, "\xff\x80ijk.", 0, false)
	d.Crash(0)
	holds(t, d, "\xff\x80ijk.", 0, false)
	sync(t, d)
	holds(t, d, "\xff\x80ijk.", 0, false)
}

// 12.1: of what waits a Crash keeps the first bytes, in their order.
func TestCrash(t *testing.T) {
	d := with(t, "pqrstu")
	write(t, d, 0, "ab")
	write(t, d, 2, "ef")
	write(t, d, 6, "")
	write(t, d, 4, "t")
	write(t, d, 1, "x")
	write(t, d, 3, "yft")
	write(t, d, 4, "\x00")
	want := []string{
		"pqrstu", "aqrstu", "abrstu", "abestu", "abeftu", "abeftu", "axeftu", "axeytu", "axeyfu", "axeyft", "axey.t",
		"axey.t", "axey.t",
	}
	for keep, s := range want {
		c := d.Copy()
		c.Crash(keep)
		holds(t, c, s, 0, false)
		c.Crash(hi)
		holds(t, c, s, 0, false)
	}
	for keep, s := range map[int]string{-1: "pqrstu", -2: "pqrstu", lo: "pqrstu", hi: "axey.t", 1 << 32: "axey.t", -1 << 32: "pqrstu"} {
		c := d.Copy()
		c.Crash(keep)
		holds(t, c, s, 0, false)
	}
}

// 12.1: what a Crash lost does not come back, and what it kept lasts.
func TestBehindACrash(t *testing.T) {
	d := with(t, "pqrs")
	write(t, d, 0, "abcd")
	d.Crash(2)
	holds(t, d, "abrs", 0, false)
	write(t, d, 3, "z")
	holds(t, d, "abrz", 1, false)
	d.Crash(0)
	holds(t, d, "abrs", 0, false)
	write(t, d, 1, "yz")
	sync(t, d)
	write(t, d, 2, "x")
	d.Crash(-1)
	holds(t, d, "ayzs", 0, false)
	for i := range 4 {
		write(t, d, i, "ABCD"[i:])
		d.Crash(1)
		holds(t, d, "ABCD"[:i+1]+"ayzs"[i+1:], 0, false)
	}
}

// 12.1: what waits is counted, whatever came ahead: Read, Copy, Stop and what is refused change nothing of it.
func TestWaits(t *testing.T) {
	d := disk.New(1000000)
	want := 0
	for i := range 300 {
		write(t, d, i, strings.Repeat("x", i))
		want += i
		d.Read(0, 7)
		d.Write(999999, []byte("xy"))
		d.Stop(hi)
		if d.Waits() != want || d.Copy().Waits() != want {
			t.Fatal(i, d.Waits())
		}
	}
	for range 4 {
		write(t, d, 0, strings.Repeat("y", 1000000))
	}
	if want += 4000000; d.Waits() != want {
		t.Error(d.Waits())
	}
	d.Crash(want - 1)
	if b, err := d.Read(999998, 2); string(b) != "yy" || err != api.OK || d.Waits() != 0 {
		t.Error(string(b), err, d.Waits())
	}
}
