package cells

import (
	"beadle/api"
	"beadle/mem"
	"beadle/number"
)

// Writing is a write of a cell, a word a step.
type Writing struct {
	spot   spot
	stores [wordsOfCell]store
	done   int
}

// store is a word of the cell and what it gets.
type store struct {
	word int
	bits uint64
}

// Write begins one: the number that the cell had, and the one that it gets. What it had stands there ahead of the version that sends readers to it, and that version ahead of the number that they may not have.
func Write(p api.Plan, cell int, version uint64, was, now float64) *Writing {
	return &Writing{
		spot: spot{p.Cells, cell},
		stores: [wordsOfCell]store{
			{wordWas, number.Bits(was)},
			{wordVersion, version},
			{wordNow, number.Bits(now)},
		},
	}
}

// Step does an access, and tells whether it is over.
func (w *Writing) Step(m *mem.Mem) (bool, api.Errno) {
	if w.over() {
		return false, api.ErrState
	}
	next := w.stores[w.done]
	if e := w.spot.store(m, next.word, next.bits); e != api.OK {
		return false, e
	}
	w.done++
	return w.over(), api.OK
}

// Clone is another one of the same.
func (w *Writing) Clone() *Writing {
	c := *w
	return &c
}

func (w *Writing) over() bool {
	return w.done == len(w.stores)
}
