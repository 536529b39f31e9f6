package disk_test

import (
	"bytes"
	"slices"
	"strconv"
	"testing"

	"apiary/api"
	"apiary/disk"
)

// slow is a Disk that remembers each byte of each Write, and lays them all down whenever it is asked.
type slow struct {
	lasts []byte
	waits []slowByte
	stop  int // how many are left; below 0 no end
}

type slowByte struct {
	at int
	b  byte
}

// after tells what there is behind the first n bytes that wait.
func (s *slow) after(n int) []byte {
	b := slices.Clone(s.lasts)
	for _, w := range s.waits[:n] {
		b[w.at] = w.b
	}
	return b
}

func (s *slow) dead() bool { return s.stop == 0 }

func (s *slow) count() {
	if s.stop > 0 {
		s.stop--
	}
}

func (s *slow) write(at int, b []byte) api.Errno {
	for i := range b {
		if at+i < 0 || at+i >= len(s.lasts) {
			return api.ErrArg
		}
	}
	if at < 0 || at > len(s.lasts) {
		return api.ErrArg
	}
	if s.dead() {
		return api.ErrDead
	}
	for i, c := range b {
		s.waits = append(s.waits, slowByte{at + i, c})
	}
	s.count()
	return api.OK
}

func (s *slow) sync() api.Errno {
	if s.dead() {
		return api.ErrDead
	}
	s.lasts, s.waits = s.after(len(s.waits)), nil
	s.count()
	return api.OK
}

func (s *slow) crash(keep int) {
	s.lasts, s.waits, s.stop = s.after(min(max(keep, 0), len(s.waits))), nil, -1
}

func (s *slow) halt(n int) {
	if !s.dead() {
		s.stop = max(n, -1)
	}
}

func (s *slow) copy() *slow {
	return &slow{slices.Clone(s.lasts), slices.Clone(s.waits), s.stop}
}

// next tells numbers that are spread, the same ones each time.
func next(s *uint64) int {
	*s = *s*6364136223846793005 + 1442695040888963407
	return int(*s >> 33)
}

// same tells where a Disk is not as the slow one is.
func same(t *testing.T, d *disk.Disk, s *slow) {
	t.Helper()
	if d.Size() != len(s.lasts) || d.Waits() != len(s.waits) || d.Dead() != s.dead() {
		t.Fatal(d.Size(), d.Waits(), d.Dead(), "not", len(s.lasts), len(s.waits), s.dead())
	}
	b, err := d.Read(0, d.Size())
	if s.dead() {
		if len(b) != 0 || err != api.ErrDead {
			t.Fatal(b, err)
		}
		return
	}
	if err != api.OK || !bytes.Equal(b, s.after(len(s.waits))) {
		t.Fatal(b, err, "not", s.after(len(s.waits)))
	}
}

// beginnings crashes a Copy at each byte that waits, and beyond.
func beginnings(t *testing.T, d *disk.Disk, s *slow) {
	t.Helper()
	for keep := -2; keep <= len(s.waits)+2; keep++ {
		c, x := d.Copy(), s.copy()
		c.Crash(keep)
		x.crash(keep)
		same(t, c, x)
	}
	same(t, d, s)
}

// both does one thing, such as the number asks, to both.
func both(t *testing.T, d *disk.Disk, s *slow, seed *uint64) {
	t.Helper()
	size := len(s.lasts)
	switch k := next(seed) % 40; {
	case k < 24:
		at := next(seed)%(size+3) - 1
		b := make([]byte, next(seed)%5)
		for i := range b {
			b[i] = byte(next(seed))
		}
		if got, want := d.Write(at, b), s.write(at, b); got != want {
			t.Fatal("Write", at, b, got, want)
		}
	case k < 28:
		if got, want := d.Sync(), s.sync(); got != want {
			t.Fatal("Sync", got, want)
		}
	case k < 32:
		n := next(seed)%9 - 2
		d.Stop(n)
		s.halt(n)
	case k < 35:
		keep := next(seed)%(len(s.waits)+4) - 2
		d.Crash(keep)
		s.crash(keep)
	default:
		beginnings(t, d, s)
	}
}

// 12.1 and 12.2: whatever is done to a Disk, in whatever order, it is as one that remembers each byte, and behind a Crash at any byte too.
func TestAnyOrder(t *testing.T) {
	for _, size := range []int{0, 1, 2, 3, 7, 30} {
		t.Run(strconv.Itoa(size), func(t *testing.T) {
			t.Parallel()
			for seed := range uint64(40) {
				d, s := disk.New(size), &slow{lasts: make([]byte, size), stop: -1}
				for range 200 {
					both(t, d, s, &seed)
					same(t, d, s)
				}
			}
		})
	}
}

// 12.2: each byte behind a Crash is one that was there at some time, and all of them are at one and the same time.
func TestSomeBeginning(t *testing.T) {
	d := with(t, "......")
	seen := []string{told(d)}
	line := "one thing is written over another, again and again"
	for i := range line {
		write(t, d, i%6, line[i:i+1])
		seen = append(seen, told(d))
	}
	for keep, want := range seen {
		c := d.Copy()
		c.Crash(keep)
		holds(t, c, want, 0, false)
	}
	// Writes of several bytes are torn as Writes of one are.
	e := with(t, "......")
	for i := 0; i < len(line); i += 6 - i%6 {
		write(t, e, i%6, line[i:min(i+6, len(line))])
	}
	for keep, want := range seen {
		c := e.Copy()
		c.Crash(keep)
		holds(t, c, want, 0, false)
	}
}

// 12.2: Crashes again and again, each at any byte.
func TestCrashOnCrash(t *testing.T) {
	for first := range 7 {
		for second := range 7 {
			d := with(t, "uvwxyz")
			s := &slow{lasts: []byte("uvwxyz"), stop: -1}
			for i, keep := range []int{first, second, first} {
				for _, at := range []int{i, keep % 4} {
					b := []byte{byte('a' + i), byte('A' + at), byte('0' + keep)}
					if d.Write(at, b) != api.OK || s.write(at, b) != api.OK {
						t.Error(first, second, at)
					}
				}
				d.Crash(keep)
				s.crash(keep)
				same(t, d, s)
			}
		}
	}
}

// ends is numbers of all kinds.
var ends = []int{lo, lo + 1, -1 << 32, -1 << 31, -1000001, -1, 0, 1, 2, 999999, 1000000, 1000001, 1 << 31, 1 << 32, 1 << 62, hi - 1, hi}

// 12.3: every call ends, and none panics, of numbers of all kinds.
func TestEveryCallEnds(t *testing.T) {
	for _, n := range ends {
		d := disk.New(n)
		for _, a := range ends {
			for _, b := range ends {
				d.Read(a, b)
			}
			for _, b := range [][]byte{nil, {}, {1}, {1, 2, 3}} {
				d.Write(a, b)
			}
			c := d.Copy()
			c.Stop(a)
			c.Write(0, []byte{1})
			c.Sync()
			c.Read(0, 1)
			c.Crash(a)
			c.Crash(a)
			c.Stop(a)
			c.Copy().Crash(-1)
			if c.Size() != d.Size() {
				t.Error(n, a, c.Size())
			}
		}
		d.Write(0, make([]byte, 1<<20))
	}
}

// 12.3: what is handed in is not kept, nor changed, nor the spare room behind it.
func TestNothingIsKept(t *testing.T) {
	d := with(t, "pqrstu")
	own := []byte("abcdXYZ")
	if err := d.Write(1, own[:4]); err != api.OK {
		t.Error(err)
	}
	c := d.Copy()
	if string(own) != "abcdXYZ" {
		t.Error(string(own))
	}
	copy(own, "-------")
	holds(t, d, "pabcdu", 4, false)
	d.Crash(3)
	holds(t, d, "pabctu", 0, false)
	holds(t, c, "pabcdu", 4, false)
	sync(t, c)
	copy(own, "+++++++")
	holds(t, c, "pabcdu", 0, false)
	c.Write(0, own[:2])
	c.Sync()
	c.Crash(0)
	c.Stop(0)
	c.Write(0, own[:6])
	if string(own) != "+++++++" {
		t.Error(string(own))
	}
}

// 12.3: what Read answers is a list of its own each time, its spare room too.
func TestAnswersAreNew(t *testing.T) {
	d := with(t, "pqrstu")
	write(t, d, 2, "ab")
	for n := range 7 {
		one, _ := d.Read(0, n)
		two, _ := d.Read(0, n)
		for i := range one[:cap(one)] {
			one[:cap(one)][i] = '-'
		}
		if string(two) != "pqabtu"[:n] {
			t.Error(n, string(two))
		}
	}
	holds(t, d, "pqabtu", 2, false)
	c := d.Copy()
	b, _ := c.Read(0, 6)
	copy(b, "------")
	holds(t, c, "pqabtu", 2, false)
	d.Crash(0)
	holds(t, d, "pqrstu", 0, false)
}
