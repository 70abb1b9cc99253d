package engine_test

import (
	"fmt"
	"slices"
	"testing"

	"beadle/alone"
	"beadle/api"
	"beadle/engine"
	"beadle/state"
)

// ordered is the deeds that have a mark by the document's order: updaters by their tickets, each reader behind the updater whose stamp it has, and behind those next to it that had ended unpublished when it began.
func ordered(t *testing.T, l []api.Deed) []api.Deed {
	t.Helper()
	var updaters []api.Deed
	for _, d := range l {
		if d.Tag == api.Updates && d.Mark >= 0 {
			updaters = append(updaters, d)
		}
	}
	slices.SortFunc(updaters, func(a, b api.Deed) int { return a.Mark - b.Mark })
	readers := make([][]api.Deed, len(updaters)+1)
	for _, d := range l {
		if d.Tag != api.Updates && d.Mark >= 0 {
			at := placeOf(t, d, updaters)
			readers[at] = append(readers[at], d)
		}
	}
	all := readers[0]
	for i, d := range updaters {
		if d.Mark != i {
			t.Errorf("the ticket %d is the %d-th", d.Mark, i)
		}
		all = append(append(all, d), readers[i+1]...)
	}
	return all
}

// placeOf is behind how many of the updaters a reader stands.
func placeOf(t *testing.T, d api.Deed, updaters []api.Deed) int {
	t.Helper()
	at := 0
	if d.Mark > 0 {
		at = 1 + slices.IndexFunc(updaters, func(u api.Deed) bool { return u.Number == d.Mark })
		if at == 0 {
			t.Errorf("nobody has published the stamp of %+v", d)
		}
	}
	for at < len(updaters) && updaters[at].Number == 0 && updaters[at].Ended > 0 && updaters[at].Ended < d.Begun {
		at++
	}
	return at
}

// wantExplained holds the deeds against P0.1 and P0.2: one behind the other in that order, each reads, emits, writes and ends as it does alone; and what is left is State. It tells how many steps readers had less and more than three for each read: they read what cells had, or were torn.
func wantExplained(t *testing.T, what string, s api.Setup, e *engine.Engine) (less, more int) {
	t.Helper()
	l := e.Deeds()
	numbers, _ := state.New(s.Config.Cells)
	for cell, x := range s.Start {
		numbers.Set(cell, x)
	}
	stamp := 0
	all := ordered(t, l)
	for _, d := range all {
		over := numbers.Clone()
		r, fault := alone.Run(s.Config, s.Programs[d.Program], d.Args, over)
		if fault != api.OK || !explains(r, d) {
			t.Errorf("%s: %+v, alone %+v, %d", what, d, r, fault)
		}
		if d.Tag == api.Reads && d.End == committed {
			steps := d.Steps - 4 - r.Fuel - 2*len(d.Reads)
			less, more = less+max(-steps, 0), more+max(steps, 0)
		}
		if d.Number == 0 {
			continue
		}
		if stamp++; d.Number != stamp || d.Tag != api.Updates {
			t.Errorf("%s: %+v has published the stamp %d", what, d, stamp)
		}
		numbers.Apply(d.Writes)
	}
	wantState(t, what, e, numbers.All()...)
	wantTimely(t, what, all)
	wantUnplaced(t, what, s, l, len(all))
	return less, more
}

// explains: of one that is over, or has published, all is as it is alone; of one under way, what there is so far.
func explains(r api.Result, d api.Deed) bool {
	if d.Number > 0 && r.End != committed || d.Tag == api.Updates && d.End == committed && d.Number == 0 {
		return false
	}
	if d.End.How != api.Going || d.Number > 0 {
		return (d.End == r.End || d.Number > 0 && d.End == api.End{}) && sameTouches(d.Reads, r.Reads) && sameTouches(d.Writes, r.Writes) && sameNumbers(d.Out, r.Out)
	}
	return d.End == api.End{} && len(d.Reads) <= len(r.Reads) && sameTouches(d.Reads, r.Reads[:len(d.Reads)]) && len(d.Out) <= len(r.Out) && sameNumbers(d.Out, r.Out[:len(d.Out)])
}

// wantTimely: whoever had ended when another one began stands ahead of it.
func wantTimely(t *testing.T, what string, all []api.Deed) {
	t.Helper()
	for i, d := range all {
		for _, later := range all[i+1:] {
			if later.Ended > 0 && later.Ended < d.Begun {
				t.Errorf("%s: %+v stands ahead of %+v, which had ended", what, d, later)
			}
		}
	}
}

// wantUnplaced: whoever has no mark has done nothing as yet; and nobody is forgotten.
func wantUnplaced(t *testing.T, what string, s api.Setup, l []api.Deed, placed int) {
	t.Helper()
	for _, d := range l {
		if d.Mark < 0 {
			placed++
			if d.Tag == api.Updates || len(d.Reads)+len(d.Writes)+len(d.Out) > 0 || d.End != (api.End{}) {
				t.Errorf("%s: without a mark: %+v", what, d)
			}
		}
		if one := s.Threads[d.Thread][d.No]; one.Program != d.Program || s.Programs[d.Program].Tag != d.Tag {
			t.Errorf("%s: no such call: %+v", what, d)
		}
	}
	if placed != len(l) {
		t.Errorf("%s: %d deeds, %d of them told", what, len(l), placed)
	}
}

// wantInTime holds the deeds against P0.3 and P0.4.
func wantInTime(t *testing.T, what string, c api.Config, l []api.Deed) {
	t.Helper()
	longest := 4*c.Fuel + 6
	turn := c.Fuel + longest + c.Threads + 3*c.Writes + 8
	for _, d := range l {
		if d.Tag != api.Updates && d.Steps > longest {
			t.Errorf("%s: a reader with more than %d steps: %+v", what, longest, d)
		}
		if d.Tag == api.Updates && d.To-d.From > (d.Ahead+1)*turn {
			t.Errorf("%s: an updater with more than %d rounds: %+v", what, (d.Ahead+1)*turn, d)
		}
	}
}

// wantNows: where no updater is under way, State is what the Nows tell.
func wantNows(t *testing.T, what string, c api.Config, e *engine.Engine) bool {
	t.Helper()
	for _, d := range e.Deeds() {
		if d.Tag == api.Updates && d.Ended == 0 {
			return false
		}
	}
	words, nows := e.Words(), make([]float64, c.Cells)
	for cell := range nows {
		nows[cell] = of(words[3+c.Threads+3*cell+1])
	}
	wantState(t, what, e, nows...)
	return true
}

// script is an order of steps of one kind: any thread, stretches of one, rounds, or with one that stands still from some step on.
type script struct {
	by      *rule
	kind    int
	threads int
	thread  int
	left    int
	at      int
}

func (o *script) next() int {
	o.at++
	switch o.kind {
	case 0:
		return o.by.below(o.threads)
	case 1:
		if o.left == 0 {
			o.thread, o.left = o.by.below(o.threads), 1+o.by.below(40)
		}
		o.left--
		return o.thread
	case 2:
		return o.at % o.threads
	}
	thread := o.by.below(o.threads)
	if thread == o.threads/2 && o.at > 40*o.kind {
		return (thread + 1) % o.threads
	}
	return thread
}

// P16.7, P0.1 to P0.5: many threads in many orders of steps: each step has one access at most; in the midst, and at last, one order explains all, and nobody is late.
func TestOrders(t *testing.T) {
	ends, quiet, older, torn := map[api.End]int{}, 0, 0, 0
	for seed := range 1500 {
		by := rule(seed)
		s := setupBy(&by, 12)
		e, what := made(t, s), fmt.Sprint("the order ", seed)
		o := &script{by: &by, kind: seed % 6, threads: s.Config.Threads}
		for i := 0; i < 2500 && !e.Over(); i++ {
			count := e.Count()
			e.Step(o.next())
			if e.Count() > count+1 {
				t.Fatalf("%s: a step with %d accesses", what, e.Count()-count)
			}
			if i%23 == 0 && wantNows(t, what, s.Config, e) {
				quiet++
			}
			if i%199 == 0 {
				wantExplained(t, what, s, e)
				wantInTime(t, what, s.Config, e.Deeds())
			}
			if t.Failed() {
				t.Fatalf("%s, step %d", what, i)
			}
		}
		less, more := wantExplained(t, what, s, e)
		older, torn = older+less, torn+more
		wantInTime(t, what, s.Config, e.Deeds())
		for _, d := range e.Deeds() {
			ends[api.End{How: d.End.How, E: d.End.E}]++
		}
	}
	for _, end := range []api.End{{}, committed, {How: api.Aborted}, failed(api.ErrStack), failed(api.ErrFuel), failed(api.ErrBadProgram), failed(api.ErrTooManyWrites), failed(api.ErrReadOnlyWrite)} {
		if ends[end] < 20 {
			t.Errorf("%+v was met %d times", end, ends[end])
		}
	}
	if quiet < 1000 || older < 50 || torn < 20 {
		t.Errorf("no updater under way: %d times; what a cell had: %d times; torn: %d times", quiet, older, torn)
	}
}

// pairs writes its argument into both cells; both emits them.
func pairs() api.Setup {
	return api.Setup{
		Config: api.Config{Cells: 2, Threads: 2, Fuel: 20, Writes: 2},
		Programs: []api.Program{
			program(api.Updates, in(api.OpArg, 0), push(0), write, in(api.OpArg, 0), push(1), write, halt),
			program(api.Reads, push(1), read, push(0), read, emit, emit, halt),
		},
		Threads: [][]api.Call{{call(0, 1)}, {call(1)}},
	}
}

// wantPair: a reader that is over has read the same number twice: that of its stamp.
func wantPair(t *testing.T, e *engine.Engine) {
	t.Helper()
	for _, d := range e.Deeds() {
		if d.Tag == api.Reads && (d.Ended == 0 || len(d.Out) != 2 || d.Out[0] != d.Out[1] || d.Out[0] != float64(d.Mark)) {
			t.Errorf("two numbers of two moments: %+v", d)
		}
	}
}

// P16.7, P0.1: each order that there is of an updater's stores and what follows with a reader's steps, by clones.
func TestEachOrder(t *testing.T) {
	s := pairs()
	ends, older, torn, outs := 0, 0, 0, map[float64]int{}
	var follow func(e *engine.Engine)
	follow = func(e *engine.Engine) {
		if t.Failed() || e.Steps() > 100 {
			t.Fatalf("each order: %+v", e.Deeds())
		}
		if e.Over() {
			less, more := wantExplained(t, "each order", s, e)
			ends, older, torn = ends+1, older+less, torn+more
			wantPair(t, e)
			wantNows(t, "each order", s.Config, e)
			for _, d := range e.Deeds()[1:] {
				outs[d.Out[0]]++
			}
			return
		}
		for thread := range 2 {
			if is, _ := e.Finished(thread); is || thread == 1 && hasRead(e) {
				continue
			}
			follow(behindAccess(e.Clone(), thread))
		}
	}
	// 3 steps ahead of its program, 7 of that, 2 of the scan.
	follow(ran(t, made(t, s), times(12, 0)...))
	if ends < 10000 || outs[0] < 1000 || outs[1] < 100 || older < 1000 || torn < 500 {
		t.Errorf("%d orders: %v, %d, %d", ends, outs, older, torn)
	}
}

// behindAccess steps a thread till it has had an access, or has finished: what else it does nobody sees, so the orders of that are not told apart.
func behindAccess(e *engine.Engine, thread int) *engine.Engine {
	count := e.Count()
	for is := true; is && e.Count() == count; {
		is, _ = e.Step(thread)
	}
	return e
}

// hasRead: has the reader read all that it reads, while the updater is not over? What it does then nobody sees, either.
func hasRead(e *engine.Engine) bool {
	l := e.Deeds()
	return l[0].Ended == 0 && len(l) > 1 && len(l[1].Reads) == 2
}

// P16.7, P0.1: two updaters' threads and two readers' in stretches of any length.
func TestStretches(t *testing.T) {
	s := pairs()
	s.Config.Threads = 4
	s.Programs = append(s.Programs, program(api.Updates, push(0), read, push(1), read, in(api.OpTwo, api.TwoAdd), push(2), in(api.OpTwo, api.TwoDiv), push(1), in(api.OpTwo, api.TwoAdd), in(api.OpDup, 0), push(0), write, push(1), write, halt))
	s.Threads = [][]api.Call{{call(2), call(2)}, {call(1), call(1)}, {call(1)}, {call(2), call(2)}}
	for seed := range 4000 {
		by := rule(seed)
		e := made(t, s)
		for range 9 {
			e.Run(times(1+by.below(30), by.below(4)))
		}
		if seed%5 == 0 {
			wantExplained(t, fmt.Sprint("the stretches ", seed), s, e)
		}
		finish(t, e)
		wantPair(t, e)
		wantState(t, "stretches", e, 4, 4)
		wantExplained(t, fmt.Sprint("the stretches ", seed), s, e)
		wantInTime(t, fmt.Sprint("the stretches ", seed), s.Config, e.Deeds())
		if t.Failed() {
			t.Fatalf("the stretches %d", seed)
		}
	}
}

// P0.3, P0.4: as long as it may take: readers that use all their fuel for reads, updaters behind them that use all theirs, eight threads in rounds, and in rounds in which one has many steps more.
func TestLongest(t *testing.T) {
	long := program(api.Reads, push(0), read, in(api.OpJump, 1))
	turns := program(api.Updates, push(0), read, in(api.OpDrop, 0), push(1), push(0), write, in(api.OpJump, 0))
	s := api.Setup{Config: api.Config{Cells: 1, Threads: 8, Fuel: 60, Writes: 1}, Programs: []api.Program{long, turns, sets()}}
	for thread := range 8 {
		s.Threads = append(s.Threads, [][]api.Call{{call(2), call(1), call(2), call(2)}, {call(0), call(0), call(0)}}[thread%2])
	}
	for often := range 8 {
		e := made(t, s)
		for i := 0; !e.Over() && i < 100_000; i++ {
			e.Step(i % 8)
			for range often {
				e.Step(often)
			}
		}
		if !e.Over() {
			t.Fatalf("not over: %+v", e.Deeds())
		}
		wantExplained(t, "the longest", s, e)
		wantInTime(t, "the longest", s.Config, e.Deeds())
	}
}

// P0.4: as many calls as may be, of as many threads: each updater comes to its turn, by its ticket, and each adds its own.
func TestAllThreadsAndTurns(t *testing.T) {
	s := api.Setup{Config: api.Config{Cells: 1, Threads: 8, Fuel: 20, Writes: 1}, Programs: []api.Program{adds(), tells()}}
	for range 8 {
		calls := slices.Repeat([]api.Call{call(0, 1), call(1), call(0, 2), call(0, 1)}, 16)
		s.Threads = append(s.Threads, calls)
	}
	for seed := range 3 {
		by := rule(seed)
		e := made(t, s)
		for range tillOver(t, e) {
			e.Step(by.below(8))
		}
		if len(e.Deeds()) != 512 {
			t.Errorf("%d deeds", len(e.Deeds()))
		}
		wantState(t, "all have added", e, 8*16*4)
		wantExplained(t, "all have added", s, e)
		wantInTime(t, "all have added", s.Config, e.Deeds())
	}
}
