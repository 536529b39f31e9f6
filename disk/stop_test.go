package disk_test

import (
	"strings"
	"testing"

	"apiary/api"
	"apiary/disk"
)

// isDead tells where a Disk does what no dead one does.
func isDead(t *testing.T, d *disk.Disk) {
	t.Helper()
	size, waits := d.Size(), d.Waits()
	if !d.Dead() {
		t.Error("it lives")
	}
	for range 2 {
		if b, err := d.Read(0, size); len(b) != 0 || err != api.ErrDead {
			t.Error("Read", b, err)
		}
		if b, err := d.Read(0, 0); len(b) != 0 || err != api.ErrDead {
			t.Error("Read", b, err)
		}
		if err := d.Write(0, make([]byte, size)); err != api.ErrDead {
			t.Error("Write", err)
		}
		if err := d.Write(size, nil); err != api.ErrDead {
			t.Error("Write", err)
		}
		if err := d.Sync(); err != api.ErrDead {
			t.Error("Sync", err)
		}
	}
	// Of what is not all there ErrArg is told ahead.
	for _, x := range [][2]int{{-1, 1}, {0, -1}, {0, size + 1}, {size, 1}, {size + 1, 0}, {lo, 0}, {hi, 0}} {
		if b, err := d.Read(x[0], x[1]); len(b) != 0 || err != api.ErrArg {
			t.Error("Read", x, err)
		}
		if x[1] < 0 {
			continue
		}
		if err := d.Write(x[0], make([]byte, x[1])); err != api.ErrArg {
			t.Error("Write", x, err)
		}
	}
	if !d.Dead() || d.Size() != size || d.Waits() != waits {
		t.Error(d.Dead(), d.Size(), d.Waits())
	}
}

// 12.1: n more of the Writes and Syncs are done, and then the Disk is dead; what was done is there.
func TestStop(t *testing.T) {
	for n := range 9 {
		d := with(t, "pqrs")
		d.Stop(n)
		want, lasts, waits := "pqrs", "pqrs", 0
		for i := range n {
			if d.Dead() {
				t.Error(n, i)
			}
			if i%3 == 2 {
				sync(t, d)
				lasts, waits = want, 0
				continue
			}
			s := string(rune('a' + i))
			write(t, d, i%4, s)
			want, waits = want[:i%4]+s+want[i%4+1:], waits+1
		}
		isDead(t, d)
		if d.Waits() != waits {
			t.Error(n, d.Waits(), waits)
		}
		c := d.Copy()
		isDead(t, c)
		c.Crash(waits)
		holds(t, c, want, 0, false)
		d.Crash(0)
		holds(t, d, lasts, 0, false)
	}
}

// 12.1: Writes of no bytes count, and Syncs of nothing; Reads, and what is ErrArg, do not.
func TestWhatCounts(t *testing.T) {
	d := disk.New(4)
	d.Stop(3)
	for range 9 {
		if err := d.Write(4, []byte("a")); err != api.ErrArg {
			t.Error(err)
		}
		if err := d.Write(-1, nil); err != api.ErrArg {
			t.Error(err)
		}
		d.Read(0, 4)
		d.Read(0, 5)
		d.Copy().Sync()
		d.Copy().Crash(0)
		d.Waits()
		d.Size()
	}
	write(t, d, 0, "")
	if d.Dead() {
		t.Error("one of three")
	}
	sync(t, d)
	if d.Dead() {
		t.Error("two of three")
	}
	write(t, d, 0, "abcd")
	isDead(t, d)
	d.Crash(3)
	holds(t, d, "abc.", 0, false)
}

// 12.1: the last Sync that is done makes last what was written.
func TestStopAtASync(t *testing.T) {
	d := disk.New(2)
	d.Stop(2)
	write(t, d, 0, "ab")
	sync(t, d)
	isDead(t, d)
	if d.Waits() != 0 {
		t.Error(d.Waits())
	}
	d.Crash(0)
	holds(t, d, "ab", 0, false)
}

// 12.1: the Stop told last holds, and one below 0 has no end.
func TestStopAgain(t *testing.T) {
	for _, n := range []int{-1, -2, lo, lo + 1, -1 << 32, hi, 1 << 32, 1 << 62, 41} {
		d := disk.New(3)
		d.Stop(1)
		d.Stop(n)
		for range 20 {
			write(t, d, 0, "a")
			sync(t, d)
		}
		if d.Dead() {
			t.Error(n)
		}
		d.Stop(2)
		sync(t, d)
		d.Stop(2)
		sync(t, d)
		if d.Dead() {
			t.Error(n)
		}
		sync(t, d)
		isDead(t, d)
	}
}

// 12.1: of 0 it is dead now, and what waits goes on to wait.
func TestStopNow(t *testing.T) {
	d := with(t, "pqrs")
	write(t, d, 0, "abc")
	d.Stop(0)
	isDead(t, d)
	if d.Waits() != 3 {
		t.Error(d.Waits())
	}
	d.Crash(2)
	holds(t, d, "abrs", 0, false)
}

// 12.1: a dead Disk stays so till a Crash, and no Stop told meanwhile holds behind it.
func TestStopOfTheDead(t *testing.T) {
	for _, n := range []int{-1, 0, 1, 2, 5, hi, lo} {
		d := disk.New(3)
		write(t, d, 0, "ab")
		d.Stop(0)
		d.Stop(n)
		isDead(t, d)
		d.Crash(1)
		holds(t, d, "a..", 0, false)
		for range 9 {
			sync(t, d)
		}
		holds(t, d, "a..", 0, false)
	}
}

// 12.1: behind a Crash a Disk has no Stop, if it had died or not.
func TestCrashEndsAStop(t *testing.T) {
	for n := range 4 {
		d := disk.New(3)
		d.Stop(n)
		for range min(n, 2) {
			write(t, d, 1, "b")
		}
		d.Crash(0)
		holds(t, d, "...", 0, false)
		for range 9 {
			write(t, d, 0, "a")
		}
		holds(t, d, "a..", 9, false)
	}
}

// 12.1: a Copy has all that the Disk has, what waits and its Stop too, and goes on by itself.
func TestCopy(t *testing.T) {
	d := with(t, "pqrs")
	write(t, d, 0, "ab")
	d.Stop(3)
	c := d.Copy()
	holds(t, c, "abrs", 2, false)

	write(t, c, 1, "xyz")
	holds(t, c, "axyz", 5, false)
	holds(t, d, "abrs", 2, false)
	write(t, d, 3, "k")
	holds(t, c, "axyz", 5, false)
	holds(t, d, "abrk", 3, false)

	sync(t, c)
	if c.Dead() || d.Waits() != 3 {
		t.Error(c.Dead(), d.Waits())
	}
	write(t, c, 0, "m")
	isDead(t, c)
	holds(t, d, "abrk", 3, false)
	e := d.Copy()
	d.Crash(0)
	holds(t, d, "pqrs", 0, false)
	isDead(t, c)
	holds(t, e, "abrk", 3, false)
	c.Crash(0)
	holds(t, c, "axyz", 0, false)
	e.Crash(1)
	holds(t, e, "aqrs", 0, false)
}

// 12.1: a Copy and the Disk have each a list of its own of what waits, however much that is.
func TestCopyWaitsAlone(t *testing.T) {
	for n := range 20 {
		d := disk.New(22)
		line := strings.Repeat("q", n)
		for i := range n {
			write(t, d, i, "q")
		}
		c := d.Copy()
		write(t, c, n, "c")
		write(t, d, n+1, "d")
		c.Crash(n + 1)
		d.Crash(n + 1)
		holds(t, c, line+"c."+strings.Repeat(".", 20-n), 0, false)
		holds(t, d, line+".d"+strings.Repeat(".", 20-n), 0, false)
	}
}

// 12.1: a Copy of the dead is dead, and either one lives by its own Crash.
func TestCopyOfTheDead(t *testing.T) {
	d := disk.New(3)
	write(t, d, 0, "abc")
	d.Stop(0)
	c := d.Copy()
	isDead(t, c)
	c.Crash(2)
	holds(t, c, "ab.", 0, false)
	isDead(t, d)
	d.Crash(1)
	holds(t, d, "a..", 0, false)
}
