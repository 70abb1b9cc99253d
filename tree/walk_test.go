package tree_test

import (
	"math"
	"slices"
	"testing"

	"beadle/alone"
	"beadle/api"
	"beadle/engine"
	"beadle/history"
	"beadle/state"
)

// rule is a row of numbers that looks as if thrown.
type rule uint64

func (r *rule) below(n int) int {
	*r = *r*6364136223846793005 + 1442695040888963407
	return int(uint64(*r>>33) % uint64(n))
}

// mixed is 0 to n - 1 in some order.
func (r *rule) mixed(n int) []int {
	all := make([]int, n)
	for i := range all {
		at := r.below(i + 1)
		all[i] = all[at]
		all[at] = i
	}
	return all
}

// model is the pairs of a tree, by the chapter's words: keys and values by turns, in the order of the keys.
type model struct {
	room  int
	pairs []float64
}

// find is where the key stands, or where it would, and whether it does.
func (m *model) find(k float64) (int, bool) {
	at := 0
	for at < len(m.pairs) && ahead(m.pairs[at], k) {
		at += 2
	}
	return at, at < len(m.pairs) && same(m.pairs[at], k)
}

func (m *model) put(k, v float64) (api.End, []float64) {
	at, there := m.find(k)
	switch {
	case there:
		m.pairs[at+1] = v
		return committed, []float64{0}
	case len(m.pairs) == 2*m.room:
		return isFull, nil
	}
	m.pairs = slices.Insert(m.pairs, at, k, v)
	return committed, []float64{1}
}

func (m *model) del(k float64) []float64 {
	at, there := m.find(k)
	if !there {
		return []float64{0}
	}
	m.pairs = slices.Delete(m.pairs, at, at+2)
	return []float64{1}
}

// wantThrough goes from Least through After of each key, and makes sure that it comes through what All emits (P20.5).
func (w *world) wantThrough() {
	w.t.Helper()
	var through []float64
	for out := w.run("Least", w.m.Least).Out; len(out) == 2; out = w.run("After", w.m.After, out[0]).Out {
		through = append(through, out...)
	}
	w.want("All", w.m.All, nil, committed, through...)
}

// P20.3 to P20.5: long rows of calls, over trees of every room, against the chapter's words.
func TestRows(t *testing.T) {
	for room := 1; room <= 16; room++ {
		r := rule(room)
		w, m := small(t, room), &model{room: room}
		for n := range 900 {
			k, v := sorted[r.below(len(sorted))], sorted[r.below(len(sorted))]
			if r.below(4) == 0 {
				k = float64(r.below(8)) - 4
			}
			many := 2
			if n/150%2 == 1 { // by turns it grows and shrinks
				many = 5
			}
			if r.below(many+1) > 1 {
				w.want("Del", w.m.Del, []float64{k}, committed, m.del(k)...)
			} else {
				end, out := m.put(k, v)
				w.want("Put", w.m.Put, []float64{k, v}, end, out...)
			}
			w.want("All", w.m.All, nil, committed, m.pairs...)
			if n%15 == 0 {
				w.wantPairs(m.pairs...)
				w.wantThrough()
			}
			if t.Failed() {
				t.Fatal(room, n, k, v, m.pairs)
			}
		}
	}
}

// P20.5: a Put of a new key and a Del of it leave what All emits as it was.
func TestPutAndDel(t *testing.T) {
	r := rule(5)
	for range 60 {
		w := worldOf(t, 0, 52, 52)
		for range r.below(16) {
			w.run("Put", w.m.Put, sorted[r.below(len(sorted))], 1)
		}
		all := w.run("All", w.m.All).Out
		for _, k := range sorted {
			if len(w.run("Get", w.m.Get, k).Out) == 0 {
				w.wantPut(k, 2, 1)
				w.wantDel(k, 1)
				w.wantPairs(all...)
			}
		}
	}
}

// P20.4: with the fuel that a call uses it does the same, with one less it fails, and nothing has changed; with fewer writes than it has likewise.
func TestLessFuelLessWrites(t *testing.T) {
	r := rule(11)
	for many := range 17 {
		w := small(t, 16)
		for _, i := range r.mixed(19)[:many] {
			w.run("Put", w.m.Put, sorted[i], float64(i))
		}
		for _, n := range programsOf(w.m) {
			for _, k := range sorted {
				w.wantLess(n.name, n.p, k)
			}
		}
	}
}

// wantLess looks at a call over copies of the state.
func (w *world) wantLess(what string, p api.Program, k float64) {
	w.t.Helper()
	was := w.s
	defer func() { w.s = was }()
	full := w.c
	defer func() { w.c = full }()
	w.s = was.Clone()
	r := w.run(what, p, k, 3)
	if r.End == isFull {
		return
	}
	w.s = was.Clone()
	w.c.Fuel, w.c.Writes = r.Fuel, max(1, len(r.Writes))
	w.want(what, p, []float64{k, 3}, committed, r.Out...)
	w.s = was.Clone()
	w.c.Fuel--
	if w.c.Fuel > 0 {
		w.wantFails(what, p, k, api.ErrFuel)
	}
	w.c.Fuel++
	w.c.Writes--
	if w.c.Writes > 0 {
		w.wantFails(what, p, k, api.ErrTooManyWrites)
	}
}

// wantFails: that nothing has changed then, run sees to.
func (w *world) wantFails(what string, p api.Program, k float64, e api.Errno) {
	w.t.Helper()
	if r := w.run(what, p, k, 3); r.End != (api.End{How: api.Failed, E: e}) {
		w.t.Errorf("%s%v with fuel %d, writes %d: %v, want the error %d", what, k, w.c.Fuel, w.c.Writes, r.End, e)
	}
}

// P20.4: even over cells that others have written no program reads or writes a cell that is not the tree's (run sees to that).
func TestCellsOfAnyNumbers(t *testing.T) {
	r := rule(3)
	for n := range 3000 {
		w := worldOf(t, 20+r.below(8), 7+r.below(50), 90)
		for cell := w.base; cell < w.base+w.cells; cell++ {
			switch r.below(4) {
			case 0:
				w.s.Set(cell, inHand(r.below(12)))
			case 1:
				w.s.Set(cell, float64(r.below(300)-5))
			case 2:
				w.s.Set(cell, float64(r.below(17)))
			}
		}
		for _, p := range programsOf(w.m) {
			w.run(p.name, p.p, sorted[r.below(len(sorted))], 1)
		}
		if t.Failed() {
			t.Fatal(n)
		}
	}
}

// P20.6: trees in cells that are not the same, in one state: each goes as if it were alone; and where one lies changes nothing of what is emitted.
func TestTreesApart(t *testing.T) {
	s, _ := state.New(100)
	bases := []int{0, 25, 50, 75}
	var ws []*world
	var ms []*model
	for _, base := range bases {
		w := worldOf(t, base, 25, 100)
		w.s = s
		ws, ms = append(ws, w), append(ms, &model{room: 7})
	}
	r := rule(9)
	for range 1500 {
		i, k, v := r.below(len(ws)), sorted[r.below(len(sorted))], sorted[r.below(len(sorted))]
		w, m := ws[i], ms[i]
		if r.below(3) == 0 {
			w.want("Del", w.m.Del, []float64{k}, committed, m.del(k)...)
		} else {
			end, out := m.put(k, v)
			w.want("Put", w.m.Put, []float64{k, v}, end, out...)
		}
		for j, other := range ws {
			other.want("All", other.m.All, nil, committed, ms[j].pairs...)
		}
	}
	for j, w := range ws {
		w.wantPairs(ms[j].pairs...)
	}
}

// P20.6: the same calls at every base, with the same ends, the same emitted.
func TestEveryBase(t *testing.T) {
	for base := 0; base <= 256-25; base += 11 {
		w, m := worldOf(t, base, 25, 256), &model{room: 7}
		r := rule(21)
		for range 120 {
			k, v := sorted[r.below(len(sorted))], sorted[r.below(len(sorted))]
			if r.below(3) == 0 {
				w.want("Del", w.m.Del, []float64{k}, committed, m.del(k)...)
			} else {
				end, out := m.put(k, v)
				w.want("Put", w.m.Put, []float64{k, v}, end, out...)
			}
		}
		w.wantPairs(m.pairs...)
	}
}

// The programs as transactions of threads: whatever the script, all that they did is explained, and a tree is there behind it.
func TestThreads(t *testing.T) {
	m := mustMake(t, 4, 19)
	l := []api.Program{m.Get, m.Put, m.Del, m.Least, m.After, m.Len, m.All}
	for seed := range 12 {
		r := rule(seed)
		threads := make([][]api.Call, 4)
		for i := range threads {
			for range 8 {
				threads[i] = append(threads[i], api.Call{Program: r.below(len(l)), Args: []float64{float64(r.below(7)), float64(r.below(9))}})
			}
		}
		setup := api.Setup{Config: api.Config{Cells: 25, Threads: 4, Fuel: api.MaxFuel, Writes: 8}, Programs: l, Threads: threads}
		w, e := engine.New(setup)
		if e != api.OK {
			t.Fatal(e)
		}
		for !w.Over() {
			w.Step(r.below(4))
		}
		deeds := w.Deeds()
		at, e := history.Explain(setup, deeds)
		if at != -1 || e != api.OK {
			t.Fatal(seed, at, e)
		}
		for _, d := range deeds {
			if d.End.How != api.Committed && d.End != isFull {
				t.Errorf("%d: %v", seed, d)
			}
		}
		s, _ := state.New(25)
		for i, x := range w.State() {
			s.Set(i, x)
		}
		all, _ := alone.Run(setup.Config, m.All, nil, s)
		for i := 2; i < len(all.Out); i += 2 {
			if !ahead(all.Out[i-2], all.Out[i]) {
				t.Errorf("%d: %v", seed, all.Out)
			}
		}
		if math.Float64bits(w.State()[0]) != 0 || math.Float64bits(w.State()[24]) != 0 {
			t.Errorf("%d: other cells are written", seed)
		}
	}
}
