package deque_test

import (
	"math"
	"slices"
	"testing"

	"beadle/api"
	"beadle/engine"
	"beadle/history"
	"beadle/state"
)

// any is any call of a row: in each stretch rather one that adds, or rather one that takes.
func (w *world) any(r *rule, grows bool) {
	w.t.Helper()
	which := r.below(4)
	if r.below(3) == 0 {
		which = r.below(2) + popFront
		if grows {
			which = r.below(2)
		}
	}
	w.do(which, r.of(kinds))
}

// P22.3, P22.5: long rows of calls, over deques of every room, against the chapter's words.
func TestRows(t *testing.T) {
	for room := 1; room <= 16; room++ {
		r := rule(room)
		w := small(t, room)
		for n := range 900 {
			w.any(&r, n/(4*room+20)%2 == 0)
			w.do(all)
			w.do(howMany)
			w.do(at, float64(r.below(room+2)))
			if n%15 == 0 {
				w.look()
			}
			if t.Failed() {
				t.Fatal(room, n, w.is.row)
			}
		}
	}
}

// P22.3: every row of up to six calls that change something, over rooms of one to three.
func TestEveryShortRow(t *testing.T) {
	for room := 1; room <= 3; room++ {
		var try func(w *world, deep int)
		try = func(w *world, deep int) {
			w.look()
			if deep == 0 {
				return
			}
			was, row := w.s, w.is.row
			for which := pushFront; which <= popBack; which++ {
				w.s, w.is.row = was.Clone(), slices.Clone(row)
				w.do(which, float64(deep))
				try(w, deep-1)
			}
		}
		try(small(t, room), 6)
	}
}

// P22.5: behind any row of calls, told without the model: Len emits how many numbers All emits, At of each index what All emits there.
func TestAllLenAt(t *testing.T) {
	for room := 1; room <= 16; room++ {
		r := rule(100 + room)
		w := small(t, room)
		for n := range 300 {
			w.run(r.below(4), r.of(kinds))
			if r.below(8) == 0 {
				w.run(popFront+r.below(2), 0)
			}
			w.holds(w.run(all).Out...)
			if t.Failed() {
				t.Fatal(room, n)
			}
		}
	}
}

// P22.5: what is pushed at an end is popped there at once, and the row is as it was; from the other end it comes out behind all that were there.
func TestPushAndPop(t *testing.T) {
	for _, room := range rooms {
		for turned := range room {
			for n := range room {
				row := kinds[:n]
				w := of(t, room, turned, row...)
				for _, x := range kinds {
					for _, end := range [][2]int{{pushFront, popFront}, {pushBack, popBack}} {
						w.want(end[0], []float64{x}, committed, float64(n+1))
						w.want(end[1], nil, committed, x)
						w.want(all, nil, committed, row...)
					}
				}
				w.wantBehindAll(pushBack, popFront, row)
				w.wantBehindAll(pushFront, popBack, row)
				if t.Failed() {
					t.Fatal(room, turned, n)
				}
			}
		}
	}
}

// wantBehindAll pushes a number at one end, and takes all from the other one, over a copy of the state.
func (w *world) wantBehindAll(in, out int, row []float64) {
	w.t.Helper()
	was := w.s
	defer func() { w.s = was }()
	w.s = was.Clone()
	w.want(in, []float64{nan}, committed, float64(len(row)+1))
	first := slices.Clone(row)
	if out == popBack {
		slices.Reverse(first)
	}
	for _, x := range append(first, nan) {
		w.want(out, nil, committed, x)
	}
	w.want(out, nil, committed)
	w.holds()
}

// P22.3: whatever numbers went through, there is room for as many as ever.
func TestRoomIsGivenBack(t *testing.T) {
	for _, room := range rooms {
		r := rule(room)
		w := small(t, room)
		for range 60 {
			for i := range room {
				w.want(r.below(2), []float64{r.of(kinds)}, committed, float64(i+1))
			}
			w.want(r.below(2), []float64{1}, isFull)
			for range room {
				w.run(popFront+r.below(2), 0)
			}
			w.holds()
		}
	}
}

// P22.4: even over cells that others have written no program reads or writes a cell that is not the deque's (run sees to that).
func TestCellsOfAnyNumbers(t *testing.T) {
	r := rule(3)
	for n := range 3000 {
		w := worldOf(t, 20+r.below(8), 3+r.below(25), 60)
		for cell := w.base; cell < w.base+w.cells; cell++ {
			switch r.below(4) {
			case 0:
				w.s.Set(cell, inHand(r.below(12)))
			case 1:
				w.s.Set(cell, float64(r.below(300)-5))
			case 2:
				w.s.Set(cell, float64(r.below(17)))
			}
		}
		for which := range w.programs {
			w.run(which, r.of(kinds))
			w.run(which, float64(r.below(17)))
		}
		if t.Failed() {
			t.Fatal(n)
		}
	}
}

// P22.6: deques in cells that are not the same, side by side in one state: each goes as if it were alone.
func TestDequesApart(t *testing.T) {
	s, _ := state.New(60)
	var ws []*world
	for _, lies := range [][2]int{{0, 18}, {18, 3}, {21, 9}, {30, 30}} {
		w := worldOf(t, lies[0], lies[1], 60)
		w.s = s
		ws = append(ws, w)
	}
	r := rule(9)
	for n := range 1500 {
		ws[r.below(len(ws))].any(&r, n/60%2 == 0)
		for _, other := range ws {
			other.do(all)
			other.do(howMany)
		}
	}
	for _, w := range ws {
		w.look()
	}
}

// P22.3: a deque does the same at every base, with no cell behind it and with many.
func TestEveryBase(t *testing.T) {
	for base := 0; base <= 256-18; base++ {
		for _, memory := range []int{base + 18, 256} {
			w := worldOf(t, base, 18, memory)
			r := rule(21)
			for n := range 60 {
				w.any(&r, n < 35)
			}
			w.look()
		}
	}
}

// R5: programs made again go on with a row that others of the same base and cells have left.
func TestMadeAgain(t *testing.T) {
	r := rule(6)
	w := small(t, 5)
	for range 200 {
		w.any(&r, r.below(2) == 0)
		w.programs = programsOf(mustMake(t, w.base, w.cells))
		w.look()
	}
}

// threadsOf are calls for some threads.
func threadsOf(r *rule, threads int) [][]api.Call {
	calls := make([][]api.Call, threads)
	for i := range calls {
		for range 10 {
			calls[i] = append(calls[i], api.Call{Program: r.below(7), Args: []float64{float64(r.below(6))}})
		}
	}
	return calls
}

// The programs as transactions of threads: whatever the script, in the one order that explains all that they did each call went by the chapter's words.
func TestThreads(t *testing.T) {
	for seed := range 20 {
		r := rule(seed)
		room := 1 + seed%5
		d := mustMake(t, 4, room+2)
		var l []api.Program
		for _, n := range programsOf(d) {
			l = append(l, n.p)
		}
		setup := api.Setup{Config: api.Config{Cells: room + 7, Threads: 4, Fuel: api.MaxFuel, Writes: 8}, Programs: l, Threads: threadsOf(&r, 4)}
		w, e := engine.New(setup)
		if e != api.OK {
			t.Fatal(e)
		}
		for !w.Over() {
			w.Step(r.below(4))
		}
		wantInOrder(t, setup, w.Deeds(), room)
		for _, cell := range []int{0, 1, 2, 3, room + 6} {
			if math.Float64bits(w.State()[cell]) != 0 {
				t.Errorf("%d: the cell %d, which is another's, is written", seed, cell)
			}
		}
	}
}

// wantInOrder goes through the deeds in their order beside a model.
func wantInOrder(t *testing.T, s api.Setup, deeds []api.Deed, room int) {
	t.Helper()
	if i, e := history.Explain(s, deeds); i != -1 || e != api.OK {
		t.Fatal("not explained:", i, e)
	}
	order, e := history.Order(deeds)
	if e != api.OK || len(order) != len(deeds) {
		t.Fatal(order, e)
	}
	is := &model{room: room}
	for _, i := range order {
		d := deeds[i]
		if end, out := is.call(d.Program, d.Args...); d.End != end || !sameAll(d.Out, out) {
			t.Errorf("%v: want %v, %v", d, end, out)
		}
	}
}

// An example of the whole: PushBack of 1, 2 and a PopFront of another thread, whichever draws its ticket first.
func TestTickets(t *testing.T) {
	d := mustMake(t, 0, 4)
	setup := api.Setup{
		Config:   api.Config{Cells: 4, Threads: 2, Fuel: api.MaxFuel, Writes: 8},
		Programs: []api.Program{d.PushBack, d.PopFront},
		Threads:  [][]api.Call{{{Program: 0, Args: []float64{1}}, {Program: 0, Args: []float64{2}}}, {{Program: 1}}},
	}
	for _, c := range []struct {
		first int
		out   []float64
	}{{0, []float64{1}}, {1, nil}} {
		w, e := engine.New(setup)
		if e != api.OK {
			t.Fatal(e)
		}
		w.Step(c.first)
		for !w.Over() {
			w.Run([]int{1 - c.first, c.first})
		}
		for _, deed := range w.Deeds() {
			if deed.Program == 1 && !sameAll(deed.Out, c.out) {
				t.Errorf("thread %d first: %v, want %v", c.first, deed.Out, c.out)
			}
		}
	}
}
