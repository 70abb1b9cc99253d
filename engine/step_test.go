package engine_test

import (
	"fmt"
	"math"
	"slices"
	"testing"

	"beadle/api"
	"beadle/engine"
)

// beyond are threads that there are not in an engine of so many.
func beyond(threads int) []int {
	return []int{math.MinInt, math.MinInt + 1, math.MinInt32, -8, -2, -1, threads, threads + 1, 8, 9, 255, 256, 1 << 31, 1 << 32, 1<<32 + 1, math.MaxInt - 1, math.MaxInt}
}

// P16.2, P16.4: threads that there are and such as there are not, by the config's own number of them, ahead of all steps, in the midst and behind the end.
func TestThreadsThatThereAreNot(t *testing.T) {
	for threads := 1; threads <= 8; threads++ {
		s := chapters()
		s.Config.Threads, s.Threads = threads, slices.Repeat([][]api.Call{{call(0)}}, threads)
		e := made(t, s)
		for _, steps := range []int{0, 7, 5000} {
			for i := range steps {
				e.Step(i % threads)
			}
			for _, thread := range beyond(threads) {
				what := fmt.Sprint(threads, " threads, behind ", steps, " steps")
				wantNoStep(t, what, e, thread, api.ErrThread)
				if is, fault := e.Finished(thread); is || fault != api.ErrThread {
					t.Errorf("%s: Finished(%d) = %v, %d", what, thread, is, fault)
				}
			}
			for thread := range threads {
				is, fault := e.Finished(thread)
				if is != (steps == 5000) || fault != api.OK {
					t.Errorf("%d threads, behind %d steps: Finished(%d) = %v, %d", threads, steps, thread, is, fault)
				}
				next := e.Clone()
				if did, fault := next.Step(thread); did == is || fault != api.OK {
					t.Errorf("%d threads, behind %d steps: Step(%d) = %v, %d", threads, steps, thread, did, fault)
				}
			}
		}
	}
}

// P16.2: a step of a thread that has no calls, or has finished, changes nothing: ahead of all steps, in the midst of a round, and behind all.
func TestStepsThatDoNothing(t *testing.T) {
	s := chapters()
	s.Config.Threads, s.Threads = 5, [][]api.Call{{call(0)}, nil, {call(1), call(1)}, {}}
	e := made(t, s)
	idle := []int{1, 3, 4}
	for i := range tillOver(t, e) {
		for _, thread := range idle {
			wantNoStep(t, fmt.Sprint("ahead of the step ", i), e, thread, api.OK)
		}
		e.Step([]int{0, 2}[i%2])
		if is, _ := e.Finished(i % 2 * 2); is && !slices.Contains(idle, i%2*2) {
			idle = append(idle, i%2*2)
		}
	}
	if len(idle) != 5 {
		t.Errorf("these have finished: %d", idle)
	}
	for thread := range 5 {
		wantNoStep(t, "behind all", e, thread, api.OK)
	}
}

// P16.2: an engine of threads without calls: none has anything to do.
func TestNoCallsAtAll(t *testing.T) {
	for _, threads := range [][][]api.Call{nil, {}, {nil}, {{}, {}}} {
		s := chapters()
		s.Threads = threads
		e := made(t, s)
		for thread := range 2 {
			wantNoStep(t, "no calls", e, thread, api.OK)
		}
		if n, fault := e.Run([]int{0, 1, 2, -1}); n != 0 || fault != api.OK {
			t.Errorf("no calls: Run = %d, %d", n, fault)
		}
		wantLook(t, "no calls", e, look{words: make([]uint64, 8), state: []float64{0}, over: true, finished: []bool{true, true}})
	}
}

// P16.2, P0.5: each step of an updater and of a reader: how many accesses it has, and the words behind it.
func TestEachStep(t *testing.T) {
	e, five := made(t, chapters()), bitsOf(5)
	for i, c := range []struct {
		thread, accesses int
		words            [8]uint64
	}{
		{1, 1, [8]uint64{0, 0, 0, 0, 0, 0, 0, 0}},
		{0, 1, [8]uint64{1, 0, 0, 0, 0, 0, 0, 0}},
		{1, 1, [8]uint64{1, 0, 0, 0, 1, 0, 0, 0}},
		{0, 1, [8]uint64{1, 0, 0, 0, 1, 0, 0, 0}},
		{1, 1, [8]uint64{1, 0, 0, 0, 1, 0, 0, 0}},
		{0, 1, [8]uint64{1, 0, 0, 0, 1, 0, 0, 0}},
		{1, 0, [8]uint64{1, 0, 0, 0, 1, 0, 0, 0}},
		{0, 0, [8]uint64{1, 0, 0, 0, 1, 0, 0, 0}},
		{0, 0, [8]uint64{1, 0, 0, 0, 1, 0, 0, 0}},
		{0, 1, [8]uint64{1, 0, 0, 0, 1, 0, 0, 0}},
		{0, 0, [8]uint64{1, 0, 0, 0, 1, 0, 0, 0}},
		{0, 1, [8]uint64{1, 0, 0, 0, 1, 0, 0, 0}},
		{1, 1, [8]uint64{1, 0, 0, 0, 1, 0, 0, 0}},
		{0, 1, [8]uint64{1, 0, 0, 0, 1, 0, 0, 0}},
		{0, 1, [8]uint64{1, 0, 0, 0, 1, 0, 0, 0}},
		{0, 1, [8]uint64{1, 0, 0, 0, 1, 1, 0, 0}},
		{0, 1, [8]uint64{1, 0, 0, 0, 1, 1, five, 0}},
		{1, 1, [8]uint64{1, 0, 0, 0, 1, 1, five, 0}},
		{1, 1, [8]uint64{1, 0, 0, 0, 1, 1, five, 0}},
		{0, 1, [8]uint64{1, 0, 1, 0, 1, 1, five, 0}},
		{1, 1, [8]uint64{1, 0, 1, 0, 1, 1, five, 0}},
		{0, 1, [8]uint64{1, 1, 1, 0, 1, 1, five, 0}},
		{1, 0, [8]uint64{1, 1, 1, 0, 1, 1, five, 0}},
		{1, 0, [8]uint64{1, 1, 1, 0, 1, 1, five, 0}},
		{1, 1, [8]uint64{1, 1, 1, 0, 0, 1, five, 0}},
	} {
		what := fmt.Sprint("step ", i)
		wantStep(t, what, e, c.thread, c.accesses)
		wantWords(t, what, e, c.words[:]...)
	}
	wantDeed(t, "the reader was torn", e, 0, api.Deed{Thread: 1, Program: 1, Tag: api.Reads, End: committed, Begun: 1, Ended: 25, Steps: 11, Reads: []api.Touch{{}}, Out: []float64{0}, To: 11})
	wantDeed(t, "the updater", e, 1, api.Deed{Tag: api.Updates, Number: 1, End: committed, Begun: 2, Ended: 22, Steps: 14, Writes: []api.Touch{{X: 5}}, To: 8})
}

// P16.2: a thread begins its next call with the step right behind the one with which the last one was over; readers and updaters by the tags of their programs.
func TestNextCallAtOnce(t *testing.T) {
	s := chapters()
	s.Programs = append(s.Programs, program(7, halt), program(api.Updates, in(api.OpAbort, 3)))
	s.Threads = [][]api.Call{{call(1), call(0, 4), call(2), call(3), call(1), call(0)}}
	e := made(t, s)
	at := 0
	for no, c := range []struct{ program, tag, mark, number, steps int }{{1, 1, 0, 0, 10}, {0, 2, 0, 1, 14}, {2, 7, 1, 0, 5}, {3, 2, 1, 0, 5}, {1, 1, 1, 0, 10}, {0, 2, 2, 2, 14}} {
		for i := range c.steps {
			if len(e.Deeds()) != no+min(i, 1) {
				t.Fatalf("behind %d steps: %d deeds", at+i, len(e.Deeds()))
			}
			ran(t, e, 0)
		}
		d := e.Deeds()[no]
		if d.Begun != at+1 || d.Ended != at+c.steps || d.Steps != c.steps || d.No != no || d.Program != c.program || d.Tag != c.tag || d.Mark != c.mark || d.Number != c.number || d.Thread != 0 {
			t.Errorf("the call %d: %+v", no, d)
		}
		at += c.steps
	}
	if is, _ := e.Finished(0); !is || !e.Over() || e.Steps() != at {
		t.Errorf("behind %d steps: %+v", at, lookAt(e))
	}
}

// P16.2: which tags update: 2 alone. Any other one comes by the census, and fails there, but for 1, which reads.
func TestTags(t *testing.T) {
	for _, tag := range []int{math.MinInt, -2, -1, 0, 1, 2, 3, 4, 258, 1<<32 + 1, 1<<32 + 2, math.MaxInt} {
		e := made(t, api.Setup{Config: small, Programs: []api.Program{program(tag, push(1), push(0), write, halt)}, Threads: [][]api.Call{{call(0)}}})
		finish(t, e)
		words, end := []uint64{0, 0, 0, 0, 0, 0, 0, 0}, failed(api.ErrBadProgram)
		switch tag {
		case api.Reads:
			end = failed(api.ErrReadOnlyWrite)
		case api.Updates:
			words, end = []uint64{1, 1, 1, 0, 0, 1, bitsOf(1), 0}, committed
		}
		wantWords(t, fmt.Sprint("the tag ", tag), e, words...)
		if d := e.Deeds()[0]; d.Tag != tag || d.End != end {
			t.Errorf("the tag %d: %+v", tag, d)
		}
	}
}

// P16.2: what a reader puts into the census is in its own thread's word, with each thread that there is.
func TestWordsOfThreads(t *testing.T) {
	s := chapters()
	s.Config.Threads, s.Threads = 8, slices.Repeat([][]api.Call{{call(1)}}, 8)
	e := made(t, s)
	want := make([]uint64, 14)
	for _, thread := range []int{5, 0, 7, 3, 1, 6, 2, 4} {
		ran(t, e, thread, thread)
		want[3+thread] = 1
		wantWords(t, fmt.Sprint("thread ", thread), e, want...)
	}
	for _, thread := range []int{4, 0, 7, 3, 1, 6, 2, 5} {
		ran(t, e, times(8, thread)...)
		want[3+thread] = 0
		wantWords(t, fmt.Sprint("thread ", thread, " has left"), e, want...)
	}
}

// P16.2: the rounds: a step is noted, a thread that finishes is waited for no more, one without calls never.
func TestRoundsAreNoted(t *testing.T) {
	s := chapters()
	s.Config.Threads, s.Threads = 4, [][]api.Call{{call(1)}, nil, {call(1), call(1)}}
	e := made(t, s)
	for i, c := range []struct{ thread, rounds int }{{0, 0}, {0, 0}, {1, 0}, {3, 0}, {2, 1}, {2, 1}, {0, 2}, {0, 2}, {0, 2}, {0, 2}, {2, 3}, {0, 3}, {0, 3}, {0, 3}, {0, 3}, {2, 4}, {2, 5}, {1, 5}, {0, 5}, {2, 6}} {
		e.Step(c.thread)
		if e.Rounds() != c.rounds {
			t.Errorf("step %d, of %d: %d rounds, want %d", i, c.thread, e.Rounds(), c.rounds)
		}
	}
	if is, _ := e.Finished(0); !is {
		t.Error("thread 0 has not finished")
	}
	rounds := e.Rounds()
	for range tillOver(t, e) {
		ran(t, e, 2)
		if rounds++; e.Rounds() != rounds {
			t.Errorf("alone: %d rounds, want %d", e.Rounds(), rounds)
		}
	}
	for thread := range 4 {
		wantNoStep(t, "all have finished", e, thread, api.OK)
	}
}

// P16.3: Run is Step of each number, folded: what it tells, and what it leaves, of numbers below 0 and beyond the threads.
func TestRunFolds(t *testing.T) {
	for threads := 1; threads <= 8; threads++ {
		s := chapters()
		s.Config.Threads = threads
		s.Threads = slices.Repeat([][]api.Call{{call(1)}}, threads)
		s.Threads[threads/2] = nil
		e, by := made(t, s), made(t, s)
		script := append([]int{0, -1, 1, -9, 9, 64}, beyond(threads)...)
		want := 0
		for _, n := range script {
			if is, _ := by.Step(folded(n, threads)); is {
				want++
			}
		}
		if n, fault := e.Run(script); n != want || fault != api.OK {
			t.Errorf("%d threads: Run = %d, %d, want %d", threads, n, fault, want)
		}
		wantLook(t, fmt.Sprint(threads, " threads"), e, lookAt(by))
	}
}

// folded looks for the thread from which a number is a whole multiple of the threads away, without any subtraction that could wrap round.
func folded(n, threads int) int {
	for thread := range threads {
		if n%threads == thread%threads || n%threads == thread-threads {
			return thread
		}
	}
	return -1
}

// P16.3: scripts of no numbers, of as many as may be, and of one more, with which nothing is done.
func TestLongScripts(t *testing.T) {
	e := made(t, chapters())
	for _, script := range [][]int{nil, {}} {
		was := lookAt(e)
		if n, fault := e.Run(script); n != 0 || fault != api.OK {
			t.Errorf("no numbers: %d, %d", n, fault)
		}
		wantLook(t, "no numbers", e, was)
	}
	for _, long := range []int{65537, 65538, 100000} {
		was := lookAt(e)
		if n, fault := e.Run(make([]int, long)); n != 0 || fault != api.ErrLong {
			t.Errorf("%d numbers: %d, %d", long, n, fault)
		}
		wantLook(t, fmt.Sprint(long, " numbers"), e, was)
		ran(t, e, 1)
	}
	if n, fault := e.Run(make([]int, 65536)); n != 14 || fault != api.OK {
		t.Errorf("65536 numbers: %d, %d", n, fault)
	}
	if n, fault := e.Run(make([]int, 65535)); n != 0 || fault != api.OK {
		t.Errorf("65535 numbers of a thread that has finished: %d, %d", n, fault)
	}
}

// P16.3: a script of as many numbers as may be, each of which does something: an updater that waits is stepped all the while.
func TestLongScriptThatDoesSomething(t *testing.T) {
	s := chapters()
	s.Threads = [][]api.Call{{call(0)}, {call(0)}}
	e := ran(t, made(t, s), 1)
	script := make([]int, 65536)
	script[65535] = 3
	ran(t, e, script...)
	wantDeed(t, "waiting", e, 1, api.Deed{Tag: api.Updates, Mark: 1, Begun: 2, Steps: 65535, Ahead: 1, To: 2})
	wantDeed(t, "waited for", e, 0, api.Deed{Thread: 1, Tag: api.Updates, Begun: 1, Steps: 2, To: 2})
	if e.Steps() != 65537 || e.Rounds() != 2 || e.Count() != 65537 {
		t.Errorf("%d steps, %d rounds, %d accesses", e.Steps(), e.Rounds(), e.Count())
	}
	finish(t, e)
}

// P16.3, R5: one script is as good as its pieces.
func TestRunInPieces(t *testing.T) {
	by := rule(5)
	var script []int
	for range 60 {
		script = append(script, by.below(20)-10)
	}
	whole := made(t, chapters())
	n, _ := whole.Run(script)
	for at := range script {
		e := made(t, chapters())
		a, _ := e.Run(script[:at])
		b, _ := e.Run(script[at:])
		if a+b != n {
			t.Errorf("%d and %d, want %d", a, b, n)
		}
		wantLook(t, fmt.Sprint("in pieces at ", at), e, lookAt(whole))
	}
}

// P16.7, P0.2: of a thread that stands still for ever nobody but an updater behind its ticket, or one that it is too old for, is held up.
func TestWhoStandsStill(t *testing.T) {
	s := chapters()
	s.Config.Threads, s.Threads = 3, [][]api.Call{{call(0), call(0)}, {call(1)}, {call(1), call(1)}}
	for behind := range 10 {
		e := made(t, s)
		ran(t, e, times(15, 0)...)
		ran(t, e, times(behind, 1)...)
		ran(t, e, times(20, 2)...)
		ran(t, e, times(15, 0)...)
		if is, _ := e.Finished(0); !is {
			t.Errorf("a reader of the same stamp, behind %d steps, holds up an updater: %+v", behind, e.Deeds())
		}
	}
	s.Threads[0] = append(s.Threads[0], call(0))
	for behind := 2; behind < 10; behind++ {
		e := made(t, s)
		ran(t, e, times(behind, 1)...)
		ran(t, e, times(15+1000, 0)...)
		wantHeldUp(t, e, behind)
	}
}

// wantHeldUp: the second updater waits for the reader that stood still with the claim 0, readers come and go meanwhile; once it has left all goes on.
func wantHeldUp(t *testing.T, e *engine.Engine, behind int) {
	t.Helper()
	ran(t, e, times(20, 2)...)
	if d := e.Deeds()[2]; d.Number != 0 || d.Mark != 1 || d.Steps != 1000 {
		t.Errorf("behind %d steps of a reader: %+v", behind, d)
	}
	finishOne(t, e, 1)
	finishOne(t, e, 0)
	if l := e.Deeds(); l[2].Number != 2 || l[2].Steps > 1010 || l[len(l)-1].Number != 3 {
		t.Errorf("behind %d steps of a reader: %+v", behind, l)
	}
}
