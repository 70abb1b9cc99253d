package engine_test

import (
	"testing"

	"beadle/api"
)

// The chapter's first example.
func TestExampleBehind(t *testing.T) {
	e := ran(t, made(t, chapters()), times(14, 0)...)
	wantDeed(t, "fourteen 0", e, 0, api.Deed{Tag: api.Updates, Number: 1, Writes: []api.Touch{{X: 5}}, End: committed, Begun: 1, Ended: 14, Steps: 14})
	wantState(t, "fourteen 0", e, 5)
	if e.Steps() != 14 || e.Rounds() != 0 || e.Over() {
		t.Errorf("%+v", lookAt(e))
	}
	ran(t, e, times(10, 1)...)
	wantDeed(t, "ten 1", e, 1, api.Deed{Thread: 1, Program: 1, Tag: api.Reads, Mark: 1, Reads: []api.Touch{{X: 5}}, Out: []float64{5}, End: committed, Begun: 15, Ended: 24, Steps: 10, To: 10})
	wantNoStep(t, "over", e, 1, api.OK)
	if !e.Over() {
		t.Error("not over")
	}
}

// The chapter's second one, and the document's second.
func TestExampleBeside(t *testing.T) {
	e := ran(t, made(t, chapters()), 1, 1, 1)
	ran(t, e, times(14, 0)...)
	wantDeed(t, "fourteen 0", e, 1, api.Deed{Tag: api.Updates, Number: 1, Writes: []api.Touch{{X: 5}}, End: committed, Begun: 4, Ended: 17, Steps: 14, To: 1})
	if n, fault := e.Run(times(8, 1)); n != 6 || fault != api.OK {
		t.Errorf("eight 1: %d, %d", n, fault)
	}
	wantDeed(t, "eight 1", e, 0, api.Deed{Thread: 1, Program: 1, Tag: api.Reads, Reads: []api.Touch{{}}, Out: []float64{0}, End: committed, Begun: 1, Ended: 23, Steps: 9, To: 7})
	wantState(t, "eight 1", e, 5)
}

// The chapter's third one.
func TestExampleOfErrors(t *testing.T) {
	e := made(t, chapters())
	wantNoStep(t, "Step(2)", e, 2, api.ErrThread)
	wantNoStep(t, "Step(-1)", e, -1, api.ErrThread)
	s := chapters()
	s.Threads = append(s.Threads, []api.Call{call(1)})
	wantFault(t, "three lists", s, api.ErrMany)
}

// The document's first example of the whole: two cells, an updater that writes both.
func TestExampleOfTwoCells(t *testing.T) {
	e := finish(t, made(t, api.Setup{Config: api.Config{Cells: 2, Threads: 1, Fuel: 20, Writes: 2}, Threads: [][]api.Call{{call(0)}},
		Programs: []api.Program{program(api.Updates, push(5), push(0), write, push(7), push(1), write, halt)}}))
	wantWords(t, "both are written", e, 1, 1, 1, 0, 1, bitsOf(5), 0, 1, bitsOf(7), 0)
	wantState(t, "both are written", e, 5, 7)
}

// The document's third and fourth: a read that is torn; then a second updater scans till that reader has left, and no later one holds it up.
func TestExampleOfTornAndHeldUp(t *testing.T) {
	s := chapters()
	s.Config.Threads, s.Threads = 3, [][]api.Call{{call(0), call(0)}, {call(1)}, {call(1), call(1), call(1)}}
	e := ran(t, made(t, s), times(5, 1)...)
	ran(t, e, times(15, 0)...)
	ran(t, e, times(100, 0)...)
	ran(t, e, times(23, 2)...)
	ran(t, e, times(100, 0)...)
	ran(t, e, times(6, 1)...)
	if l := e.Deeds(); l[0].Ended != e.Steps() || l[0].Steps != 11 || l[0].Mark != 0 || bitsOf(l[0].Out[0]) != 0 || l[2].Number != 0 || l[2].Steps != 200 {
		t.Errorf("torn: %+v", l)
	}
	// The scan is at the thread 1; the thread 2 has the claim 1, which is not below 1.
	ran(t, e, times(2+3+1+1, 0)...)
	l := e.Deeds()
	if is, _ := e.Finished(0); !is || l[2].Number != 2 || l[5].Mark != 1 || l[5].Ended != 0 {
		t.Errorf("held up: %+v", l)
	}
}

// The document's fifth, sixth and seventh: ends by a program's own fault, or its abort; what was read is told all the same, and the next one has its turn.
func TestExamplesOfEnds(t *testing.T) {
	s := api.Setup{Config: api.Config{Cells: 1, Threads: 2, Fuel: 200, Writes: 1}, Start: []float64{3}, Programs: []api.Program{
		program(api.Updates, push(1), in(api.OpJump, 0)),
		program(api.Reads, in(api.OpJump, 0)),
		program(api.Reads, push(0), read, push(0), write, halt),
		program(api.Updates, push(9), push(0), write, in(api.OpAbort, 4)),
		sets(),
	}, Threads: [][]api.Call{{call(0), call(1), call(2), call(3)}, {call(4)}}}
	e := made(t, s)
	finishOne(t, e, 0)
	l := e.Deeds()
	for i, end := range []api.End{failed(api.ErrStack), failed(api.ErrFuel), failed(api.ErrReadOnlyWrite), {How: api.Aborted, Code: 4}} {
		if l[i].End != end || l[i].Number != 0 {
			t.Errorf("the call %d: %+v", i, l[i])
		}
	}
	if !sameTouches(l[2].Reads, []api.Touch{{X: 3}}) || !sameTouches(l[3].Writes, []api.Touch{{X: 9}}) {
		t.Errorf("%+v, %+v", l[2], l[3])
	}
	wantWords(t, "nothing is written", e, 2, 2, 0, 0, 0, 0, bitsOf(3), 0)
	wantWords(t, "the next one has its turn", finish(t, e), 3, 3, 1, 0, 0, 1, bitsOf(5), bitsOf(3))
}

// The document's tenth: a script steps the threads as it names them.
func TestExampleOfAScript(t *testing.T) {
	e := ran(t, made(t, chapters()), 0, 1, 0, 1)
	if l := e.Deeds(); len(l) != 2 || l[0].Begun != 1 || l[1].Begun != 2 || l[0].Steps != 2 || l[1].Steps != 2 || e.Rounds() != 2 {
		t.Errorf("%+v", l)
	}
}
