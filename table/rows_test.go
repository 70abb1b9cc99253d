package table_test

import (
	"math"
	"slices"
	"testing"

	"beadle/alone"
	"beadle/api"
	"beadle/engine"
	"beadle/history"
	"beadle/state"
)

// pool are keys of every kind, some with the hash of one another.
func pool(t *testing.T) []float64 {
	t.Helper()
	all := slices.Concat(kinds, ofOneHash(t, nan, 8)[1:], ofOneHash(t, less0, 8)[1:])
	for i := range 8 {
		all = append(all, float64(i)-4, 0.1*float64(i+1))
	}
	return all
}

// P21.3 to P21.5: long rows of calls, over tables of every room, against the chapter's words.
func TestRows(t *testing.T) {
	keys := pool(t)
	for room := 1; room <= 16; room++ {
		r := rule(room)
		w := small(t, room)
		for n := range 900 {
			many := 2
			if n/150%2 == 1 { // by turns it grows and shrinks
				many = 5
			}
			k, v := r.of(keys), r.of(kinds)
			if r.below(many+1) > 1 {
				w.del(k)
			} else {
				w.put(k, v)
			}
			w.wantPairs(w.is.pairs...)
			w.get(r.of(keys))
			if n%15 == 0 {
				w.look(keys...)
			}
			if t.Failed() {
				t.Fatal(room, n, k, v, w.is.pairs)
			}
		}
	}
}

// P21.3: whatever keys come and go, there is room for as many as ever.
func TestRoomIsGivenBack(t *testing.T) {
	keys := slices.Concat(ofOneHash(t, 5, 40), kinds)
	for room := 1; room <= 16; room += 5 {
		r := rule(room)
		w := small(t, room)
		for range 60 {
			mixed := r.mixed(len(keys))
			for _, i := range mixed[:room] {
				w.want("Put", w.m.Put, []float64{keys[i], 1}, committed, 1)
			}
			w.want("Put", w.m.Put, []float64{keys[mixed[room]], 1}, isFull)
			slices.Sort(mixed[:room])
			for _, i := range mixed[:room] {
				w.want("Del", w.m.Del, []float64{keys[i]}, committed, 1)
			}
			w.wantPairs()
		}
	}
}

// P21.5: a Put of a new key and a Del of it leave the pairs that All emits as they were.
func TestPutAndDel(t *testing.T) {
	r, keys := rule(5), pool(t)
	for range 60 {
		w := worldOf(t, 0, 56, 56)
		for range r.below(16) {
			w.put(r.of(keys), 1)
		}
		pairs := slices.Clone(w.is.pairs)
		for _, k := range keys {
			if w.is.find(k) < 0 {
				w.want("Put", w.m.Put, []float64{k, 2}, committed, 1)
				w.want("Del", w.m.Del, []float64{k}, committed, 1)
				w.wantPairs(pairs...)
			}
		}
		w.look(keys...)
	}
}

// P21.3: over cells with the same numbers All emits the pairs in the same order, wherever the table came from.
func TestSameCellsSameOrder(t *testing.T) {
	r, keys := rule(8), pool(t)
	for range 40 {
		w := worldOf(t, 4, 40, 50)
		for range 30 {
			if k := r.of(keys); r.below(3) == 0 {
				w.del(k)
			} else {
				w.put(k, r.of(kinds))
			}
		}
		out := w.run("All", w.m.All).Out
		other := worldOf(t, 4, 40, 50)
		for cell, x := range w.s.All() {
			other.s.Set(cell, x)
		}
		other.want("All", other.m.All, nil, committed, out...)
	}
}

// P21.4: with the fuel that a call uses it does the same, with one less it fails, and nothing has changed; with fewer writes than it has likewise.
func TestLessFuelLessWrites(t *testing.T) {
	r := rule(11)
	one := ofOneHash(t, nan, 17)
	for many := range 17 {
		for _, keys := range [][]float64{kinds, one} {
			w := small(t, 16)
			for _, i := range r.mixed(len(keys))[:many] {
				w.put(keys[i], float64(i))
			}
			for _, n := range programsOf(w.m) {
				for _, k := range keys {
					w.wantLess(n.name, n.p, k)
				}
			}
			w.look(keys...)
		}
	}
}

// wantLess looks at a call over copies of the state.
func (w *world) wantLess(what string, p api.Program, k float64) {
	w.t.Helper()
	was, full := w.s, w.c
	defer func() { w.s, w.c = was, full }()
	w.s = was.Clone()
	r := w.run(what, p, k, 3)
	if r.End == isFull {
		return
	}
	w.s = was.Clone()
	w.c.Fuel, w.c.Writes = r.Fuel, max(1, len(r.Writes))
	w.want(what, p, []float64{k, 3}, committed, r.Out...)
	w.s = was.Clone()
	w.c.Fuel--
	if w.c.Fuel > 0 {
		w.wantFails(what, p, k, api.ErrFuel)
	}
	w.c.Fuel++
	w.c.Writes--
	if w.c.Writes > 0 {
		w.wantFails(what, p, k, api.ErrTooManyWrites)
	}
}

// wantFails: that nothing has changed then, run sees to.
func (w *world) wantFails(what string, p api.Program, k float64, e api.Errno) {
	w.t.Helper()
	if r := w.run(what, p, k, 3); r.End != (api.End{How: api.Failed, E: e}) {
		w.t.Errorf("%s%v with fuel %d, writes %d: %v, want the error %d", what, k, w.c.Fuel, w.c.Writes, r.End, e)
	}
}

// P21.4: even over cells that others have written no program reads or writes a cell that is not the table's (run sees to that).
func TestCellsOfAnyNumbers(t *testing.T) {
	r, keys := rule(3), pool(t)
	for n := range 3000 {
		w := worldOf(t, 20+r.below(8), 11+r.below(50), 90)
		for cell := w.base; cell < w.base+w.cells; cell++ {
			switch r.below(4) {
			case 0:
				w.s.Set(cell, inHand(r.below(12)))
			case 1:
				w.s.Set(cell, float64(r.below(300)-5))
			case 2:
				w.s.Set(cell, float64(r.below(17)))
			}
		}
		for _, p := range programsOf(w.m) {
			w.run(p.name, p.p, r.of(keys), 1)
		}
		if t.Failed() {
			t.Fatal(n)
		}
	}
}

// P21.6: tables in cells that are not the same, side by side in one state: each goes as if it were alone.
func TestTablesApart(t *testing.T) {
	keys := pool(t)
	s, _ := state.New(100)
	var ws []*world
	for _, lies := range [][2]int{{0, 29}, {29, 11}, {40, 30}, {70, 30}} {
		w := worldOf(t, lies[0], lies[1], 100)
		w.s = s
		ws = append(ws, w)
	}
	r := rule(9)
	for range 1500 {
		w, k := ws[r.below(len(ws))], r.of(keys)
		if r.below(3) == 0 {
			w.del(k)
		} else {
			w.put(k, r.of(kinds))
		}
		for _, other := range ws {
			other.wantPairs(other.is.pairs...)
		}
	}
	for _, w := range ws {
		w.look(keys...)
	}
}

// P21.3: a table does the same at every base, with no cell behind it and with many.
func TestEveryBase(t *testing.T) {
	keys := pool(t)
	for base := 0; base <= 256-29; base += 11 {
		for _, all := range []int{base + 29, 256} {
			w := worldOf(t, base, 29, all)
			r := rule(21)
			for range 120 {
				if k := r.of(keys); r.below(3) == 0 {
					w.del(k)
				} else {
					w.put(k, r.of(kinds))
				}
			}
			w.look(keys...)
		}
	}
}

// The programs as transactions of threads: whatever the script, all that they did is explained, and a table is there behind it.
func TestThreads(t *testing.T) {
	m := mustMake(t, 4, 23)
	l := []api.Program{m.Get, m.Put, m.Del, m.Len, m.All}
	for seed := range 12 {
		r := rule(seed)
		threads := make([][]api.Call, 4)
		for i := range threads {
			for range 8 {
				threads[i] = append(threads[i], api.Call{Program: r.below(len(l)), Args: []float64{float64(r.below(7)), float64(r.below(9))}})
			}
		}
		setup := api.Setup{Config: api.Config{Cells: 28, Threads: 4, Fuel: api.MaxFuel, Writes: 8}, Programs: l, Threads: threads}
		w, e := engine.New(setup)
		if e != api.OK {
			t.Fatal(e)
		}
		for !w.Over() {
			w.Step(r.below(4))
		}
		deeds := w.Deeds()
		at, e := history.Explain(setup, deeds)
		if at != -1 || e != api.OK {
			t.Fatal(seed, at, e)
		}
		for _, d := range deeds {
			if d.End.How != api.Committed && d.End != isFull {
				t.Errorf("%d: %v", seed, d)
			}
		}
		wantOnce(t, setup.Config, m.All, w.State())
		for _, cell := range []int{0, 1, 2, 3, 27} {
			if math.Float64bits(w.State()[cell]) != 0 {
				t.Errorf("%d: the cell %d, which is another's, is written", seed, cell)
			}
		}
	}
}

// wantOnce makes sure that no key is there twice.
func wantOnce(t *testing.T, c api.Config, p api.Program, cells []float64) {
	t.Helper()
	s, _ := state.Of(cells)
	all, _ := alone.Run(c, p, nil, s)
	seen := &model{room: 16}
	for i := 0; i+1 < len(all.Out); i += 2 {
		if end, out := seen.put(all.Out[i], all.Out[i+1]); end != committed || out[0] != 1 {
			t.Errorf("All: %v", all.Out)
		}
	}
}
