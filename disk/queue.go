package disk

import "slices"

// write is bytes, and the place of the first of them.
type write struct {
	at    int
	bytes []byte
}

// into lays the bytes of w where they belong.
func (w write) into(b []byte) {
	copy(b[w.at:], w.bytes)
}

// queue is writes that wait, in their order, and how many bytes they have.
type queue struct {
	writes []write
	bytes  int
}

// add lets w wait behind all others.
func (q *queue) add(w write) {
	if len(w.bytes) == 0 {
		return
	}
	// The bytes belong to whoever writes them, and may change.
	q.writes = append(q.writes, write{w.at, slices.Clone(w.bytes)})
	q.bytes += len(w.bytes)
}

// each hands every write that waits to do.
func (q *queue) each(do func(write)) {
	for _, w := range q.writes {
		do(w)
	}
}

// keeper makes the first bytes that wait last, as many as are left to it.
type keeper struct {
	disk *Disk
	left int
}

// last makes as much of w last as there may.
func (k *keeper) last(w write) {
	n := min(k.left, len(w.bytes))
	k.disk.last(write{w.at, w.bytes[:n]})
	k.left -= n
}
