package pack

import (
	"apiary/api"
	"apiary/cell"
	"apiary/cells"
	"apiary/ident"
)

func areWords(l []uint64) bool {
	for _, w := range l {
		if !ident.Ok(w) {
			return false
		}
	}
	return true
}

// areOfOneSize tells if words are, as none are.
func areOfOneSize(l []uint64) bool {
	return len(l) == 0 || cells.Check(l, ident.Res(l[0])) == api.OK
}

// isAnyFiner tells if one of some words is finer than r.
func isAnyFiner(l []uint64, r int) bool {
	for _, w := range l {
		if ident.Res(w) > r {
			return true
		}
	}
	return false
}

// line is a word as the last one of those that it is within.
type line uint64

// words goes through the words on the line, the finest first. There are none, if it is no word.
func (l line) words(visit func(w uint64) bool) {
	at, err := uint64(l), api.OK
	if !ident.Ok(at) {
		return
	}
	for err == api.OK && visit(at) {
		at, err = ident.Parent(at)
	}
}

// below tells the words of r that are within w, which is not finer.
func below(w uint64, r int) []uint64 {
	if ident.Res(w) == r {
		return []uint64{w}
	}
	var all []uint64
	c, _ := ident.Cell(w)
	children, _ := cell.Children(c)
	for _, child := range children {
		next, _ := ident.Of(child)
		all = append(all, below(next, r)...)
	}
	return all
}
