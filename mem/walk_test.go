package mem_test

import (
	"slices"
	"testing"

	"beadle/api"
	"beadle/mem"
)

// deed is a call of one memory: which, where, and by what number.
type deed struct {
	kind, at int
	v        uint64
}

const (
	doOpen = iota
	doLoad
	doStore
	doAdd
	doPeek
	doPoke
	doClone
	kinds
)

// believed is what a memory should be by its deeds alone: each word is worked out anew from all that was done.
type believed struct {
	words int
	done  []deed
}

// good tells which of the deeds were answered OK, and whether the memory is open behind them.
func (b believed) good() ([]deed, bool) {
	var good []deed
	open := false
	for _, d := range b.done {
		there := d.at >= 0 && d.at < b.words
		switch d.kind {
		case doOpen:
			open = true
		case doLoad, doStore, doAdd:
			if there && open {
				good = append(good, d)
				open = false
			}
		case doPoke:
			if there {
				good = append(good, d)
			}
		}
	}
	return good, open
}

func (b believed) all() []uint64 {
	all := make([]uint64, b.words)
	good, _ := b.good()
	for _, d := range good {
		switch d.kind {
		case doStore, doPoke:
			all[d.at] = d.v
		case doAdd:
			all[d.at] += d.v
		}
	}
	return all
}

func (b believed) count() int {
	n := 0
	good, _ := b.good()
	for _, d := range good {
		if d.kind != doPoke {
			n++
		}
	}
	return n
}

// answer is what the deed should tell, done next.
func (b believed) answer(d deed) (uint64, api.Errno) {
	if d.kind == doOpen || d.kind == doClone {
		return 0, api.OK
	}
	if d.at < 0 || d.at >= b.words {
		return 0, api.ErrPlace
	}
	if _, open := b.good(); !open && d.kind != doPeek && d.kind != doPoke {
		return 0, api.ErrSpent
	}
	if d.kind == doStore || d.kind == doPoke {
		return 0, api.OK
	}
	return b.all()[d.at], api.OK
}

func do(m *mem.Mem, d deed) (*mem.Mem, uint64, api.Errno) {
	var v uint64
	e := api.OK
	switch d.kind {
	case doOpen:
		m.Open()
	case doLoad:
		v, e = m.Load(d.at)
	case doStore:
		e = m.Store(d.at, d.v)
	case doAdd:
		v, e = m.Add(d.at, d.v)
	case doPeek:
		v, e = m.Peek(d.at)
	case doPoke:
		e = m.Poke(d.at, d.v)
	case doClone:
		m = m.Clone()
	}
	return m, v, e
}

func doAndHold(t *testing.T, m *mem.Mem, b *believed, d deed) *mem.Mem {
	t.Helper()
	right, rightE := b.answer(d)
	m, v, e := do(m, d)
	if v != right || e != rightE {
		t.Errorf("behind %v: %v = %d, %d, want %d, %d", b.done, d, v, e, right, rightE)
	}
	b.done = append(b.done, d)
	if all := m.All(); !slices.Equal(all, b.all()) || m.Count() != b.count() {
		t.Errorf("behind %v: %d, Count %d, want %d, %d", b.done, all, m.Count(), b.all(), b.count())
	}
	return m
}

// P3.7: every row of four deeds at two words and the places beside them.
func TestEveryRowOfDeeds(t *testing.T) {
	steps := []deed{{doOpen, 0, 0}, {doLoad, 1, 0}, {doStore, 0, 3}, {doStore, 2, 4}, {doAdd, 0, greatest}, {doAdd, -1, 1}, {doPeek, 0, 0}, {doPoke, 1, 6}, {doPoke, 2, 5}, {doClone, 0, 0}}
	const long = 4
	rows := 1
	for range long {
		rows *= len(steps)
	}
	for row := range rows {
		m := sized(t, 2)
		b := &believed{words: 2}
		for range long {
			m = doAndHold(t, m, b, steps[row%len(steps)])
			row /= len(steps)
		}
		if t.Failed() {
			return
		}
	}
}

// P3.7: long rows, of a plain rule instead of luck.
func TestLongRowsOfDeeds(t *testing.T) {
	for words := 1; words <= 9; words++ {
		m := sized(t, words)
		b := &believed{words: words}
		x := uint64(words)
		for range 400 {
			x = x*6364136223846793005 + 1442695040888963407
			d := deed{kind: int(x>>33) % kinds, at: int(x>>41)%(words+2) - 1, v: x}
			m = doAndHold(t, m, b, d)
		}
		if t.Failed() {
			return
		}
	}
}

// P3.7: between two calls of Open there is one access at most.
func TestOneAccessBetweenTwoOpens(t *testing.T) {
	m := sized(t, 3)
	x := uint64(5)
	between := m.Count()
	for range 5000 {
		x = x*6364136223846793005 + 1442695040888963407
		d := deed{kind: int(x>>33) % doClone, at: int(x>>41)%5 - 1, v: x >> 20}
		if d.kind == doOpen {
			between = m.Count()
		}
		before, counted := m.All(), m.Count()
		var e api.Errno
		m, _, e = do(m, d)
		if m.Count()-between > 1 {
			t.Fatalf("%d accesses between two of Open", m.Count()-between)
		}
		if counts := e == api.OK && (d.kind == doLoad || d.kind == doStore || d.kind == doAdd); (m.Count() == counted+1) != counts {
			t.Fatalf("%v, answered %d: Count was %d and is %d", d, e, counted, m.Count())
		}
		wantOneChange(t, d, e, before, m.All())
	}
}

func wantOneChange(t *testing.T, d deed, e api.Errno, before, after []uint64) {
	t.Helper()
	changes := d.kind == doStore || d.kind == doAdd || d.kind == doPoke
	for at := range before {
		if before[at] != after[at] && (e != api.OK || !changes || at != d.at) {
			t.Fatalf("%v, answered %d: the word %d was %d and is %d", d, e, at, before[at], after[at])
		}
	}
}
