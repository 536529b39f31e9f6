package pack

import (
	"container/heap"
	"slices"

	"apiary/api"
	"apiary/ident"
)

// finestFirst is a heap of words with the greatest first: a word begins with its size, so that one is among the finest, and brothers come one after another.
type finestFirst []uint64

// Len, Less, Swap, Push and Pop are what package heap asks for.
func (h finestFirst) Len() int { return len(h) }

func (h finestFirst) Less(i, j int) bool { return h[i] > h[j] }

func (h finestFirst) Swap(i, j int) { h[i], h[j] = h[j], h[i] }

func (h *finestFirst) Push(w any) { *h = append(*h, w.(uint64)) }

func (h *finestFirst) Pop() any {
	end := len(*h) - 1
	w := (*h)[end]
	*h = (*h)[:end]
	return w
}

// next takes the first word off.
func (h *finestFirst) next() uint64 { return heap.Pop(h).(uint64) }

// brothers takes the first word off, with all that have its parent, and tells this too: 0, if there is none.
func (h *finestFirst) brothers() ([]uint64, uint64) {
	l := []uint64{h.next()}
	parent, err := ident.Parent(l[0])
	if err != api.OK {
		return l, 0
	}
	for len(*h) > 0 {
		if other, _ := ident.Parent((*h)[0]); other != parent {
			break
		}
		l = append(l, h.next())
	}
	return l, parent
}

// join puts parents in the place of seven brothers until there are no seven. The words of set rise, each once.
func join(set []uint64) []uint64 {
	var joined []uint64
	left := finestFirst(set)
	heap.Init(&left)
	for len(left) > 0 {
		// What is finer than they are is done with, so no brother of theirs is still to come.
		brothers, parent := left.brothers()
		if len(brothers) == family {
			heap.Push(&left, parent)
		} else {
			joined = append(joined, brothers...)
		}
	}
	slices.Reverse(joined)
	return joined
}
