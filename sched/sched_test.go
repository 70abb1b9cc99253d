package sched_test

import (
	"fmt"
	"math"
	"slices"
	"testing"

	"beadle/api"
	"beadle/sched"
)

func made(t *testing.T, threads int) *sched.Rounds {
	t.Helper()
	r, e := sched.New(threads)
	if e != api.OK || r == nil {
		t.Fatalf("New(%d): %v, %d", threads, r, e)
	}
	return r
}

// to counts from 0 to n - 1.
func to(n int) []int {
	var all []int
	for i := range n {
		all = append(all, i)
	}
	return all
}

func want(t *testing.T, what string, r *sched.Rounds, over int, due ...int) {
	t.Helper()
	if got := r.Over(); got != over {
		t.Errorf("%s: %d over, want %d", what, got, over)
	}
	if got := r.Due(); !slices.Equal(got, due) {
		t.Errorf("%s: %v due, want %v", what, got, due)
	}
}

// steps and finishes do so with each of these threads, all of which there are.
func steps(t *testing.T, r *sched.Rounds, threads ...int) {
	t.Helper()
	for _, thread := range threads {
		wantErrno(t, fmt.Sprint("Step of ", thread), r.Step(thread), api.OK)
	}
}

func finishes(t *testing.T, r *sched.Rounds, threads ...int) {
	t.Helper()
	for _, thread := range threads {
		wantErrno(t, fmt.Sprint("Finish of ", thread), r.Finish(thread), api.OK)
	}
}

// The chapter's examples of rounds.
func TestExamplesOfRounds(t *testing.T) {
	r := made(t, 3)
	steps(t, r, 0, 0, 2)
	want(t, "three steps", r, 0, 1)
	finishes(t, r, 1)
	want(t, "a Finish", r, 1, 0, 2)
	steps(t, r, 1)
	want(t, "a step of one that has finished", r, 1, 0, 2)
	steps(t, r, 2, 0)
	want(t, "a second round", r, 2, 0, 2)
	wantErrno(t, "Step(3)", r.Step(3), api.ErrThread)
	wantErrno(t, "Finish(-1)", r.Finish(-1), api.ErrThread)
	finishes(t, r, 0, 2, 2)
	want(t, "all have finished", r, 2)
}

// P10.2: each number of threads that may be; at first none is over, and all are due.
func TestNew(t *testing.T) {
	for threads := 1; threads <= api.MaxThreads; threads++ {
		want(t, fmt.Sprint(threads, " threads"), made(t, threads), 0, to(threads)...)
	}
}

// P10.2: the numbers of threads that may not be.
func TestNewOfThreadsThatMayNotBe(t *testing.T) {
	for _, threads := range notThreads {
		if r, e := sched.New(threads); r != nil || e != api.ErrArg {
			t.Errorf("New(%d): %v, %d", threads, r, e)
		}
	}
}

// P10.2, R5: rounds that were made apart don't see each other.
func TestNewIsNew(t *testing.T) {
	first, second := made(t, 2), made(t, 2)
	steps(t, first, 0, 1, 0)
	finishes(t, first, 1)
	want(t, "the first", first, 2, 0)
	want(t, "the second", second, 0, 0, 1)
	want(t, "a third", made(t, 2), 0, 0, 1)
}

// P10.3: Step and Finish of threads that there are not, at every number of threads, before anything, in a round, and behind the last Finish; nothing happens.
func TestNoSuchThread(t *testing.T) {
	for threads := 1; threads <= api.MaxThreads; threads++ {
		fresh, under, behind := made(t, threads), made(t, threads), made(t, threads)
		steps(t, under, threads-1)
		finishes(t, behind, to(threads)...)
		for _, r := range []*sched.Rounds{fresh, under, behind} {
			over, due := r.Over(), r.Due()
			for _, thread := range []int{
				-1, -2, -8, math.MinInt, math.MinInt32, threads, threads + 1, 8, 9, 255, 256, 1 << 32, 1<<32 + threads - 1, math.MaxInt32, math.MaxInt,
				-threads, -256, -1 << 32, 256 + threads - 1,
			} {
				what := fmt.Sprint(thread, " of ", threads)
				wantErrno(t, "Step of "+what, r.Step(thread), api.ErrThread)
				want(t, "behind the Step of "+what, r, over, due...)
				wantErrno(t, "Finish of "+what, r.Finish(thread), api.ErrThread)
				want(t, "behind the Finish of "+what, r, over, due...)
			}
		}
	}
}

// P10.3: the first and the last thread, each at every number of threads.
func TestFirstAndLast(t *testing.T) {
	for threads := 2; threads <= api.MaxThreads; threads++ {
		what := fmt.Sprint(threads, " threads")
		r := made(t, threads)
		steps(t, r, 0)
		want(t, what+", Step of the first", r, 0, to(threads)[1:]...)
		r = made(t, threads)
		finishes(t, r, 0)
		want(t, what+", Finish of the first", r, 0, to(threads)[1:]...)
		r = made(t, threads)
		finishes(t, r, threads-1)
		want(t, what+", Finish of the last", r, 0, to(threads-1)...)
		r = made(t, threads)
		steps(t, r, threads-1)
		want(t, what+", Step of the last", r, 0, to(threads-1)...)
	}
}

// P10.3: who was stepped in this round already may be stepped again; the round goes on.
func TestStepAgain(t *testing.T) {
	r := made(t, 3)
	for range 5 {
		steps(t, r, 1)
		want(t, "1 again", r, 0, 0, 2)
	}
	for range 5 {
		steps(t, r, 0, 1)
		want(t, "0 and 1 again", r, 0, 2)
	}
	steps(t, r, 2)
	want(t, "the round is over", r, 1, 0, 1, 2)
	steps(t, r, 2)
	want(t, "in the next one none was stepped", r, 1, 0, 1)
}

// P10.3: one that has finished is stepped: nothing happens, in whatever round.
func TestStepOfOneThatHasFinished(t *testing.T) {
	r := made(t, 3)
	finishes(t, r, 1)
	steps(t, r, 1, 1)
	want(t, "finished and stepped", r, 0, 0, 2)
	steps(t, r, 0, 1)
	want(t, "in a round", r, 0, 2)
	steps(t, r, 2)
	want(t, "the round is over without it", r, 1, 0, 2)
	steps(t, r, 1)
	want(t, "in the next", r, 1, 0, 2)
}

// P10.3: one that has finished finishes once more: nothing happens, whether it was stepped in this round or not.
func TestFinishAgain(t *testing.T) {
	r := made(t, 3)
	finishes(t, r, 1, 1)
	want(t, "twice", r, 0, 0, 2)
	steps(t, r, 0)
	finishes(t, r, 1)
	want(t, "in a round", r, 0, 2)
	finishes(t, r, 0)
	want(t, "one that was stepped has finished", r, 0, 2)
	finishes(t, r, 0, 1)
	want(t, "both again", r, 0, 2)
	finishes(t, r, 2)
	want(t, "all", r, 0)
	finishes(t, r, 0, 1, 2)
	want(t, "all again", r, 0)
}

// P10.3: a Finish ends a round, if each of the others was stepped in it.
func TestFinishEndsARound(t *testing.T) {
	for threads := 2; threads <= api.MaxThreads; threads++ {
		for last := range threads {
			what := fmt.Sprint(last, " of ", threads)
			others := slices.Delete(to(threads), last, last+1)
			r := made(t, threads)
			steps(t, r, others...)
			want(t, what+" is due", r, 0, last)
			finishes(t, r, last)
			want(t, what+" has finished", r, 1, others...)
			finishes(t, r, last)
			want(t, what+" has finished twice", r, 1, others...)
			steps(t, r, others...)
			want(t, what+" is missed by none", r, 2, others...)
		}
	}
}

// P10.3: a Finish does not end a round in which another one is due, nor one in which nobody was stepped.
func TestFinishEndsNoRound(t *testing.T) {
	r := made(t, 4)
	finishes(t, r, 3)
	want(t, "nobody was stepped", r, 0, 0, 1, 2)
	steps(t, r, 0)
	finishes(t, r, 1)
	want(t, "2 is due", r, 0, 2)
	finishes(t, r, 0)
	want(t, "who was stepped has finished", r, 0, 2)
	steps(t, r, 2)
	want(t, "the last one's round", r, 1, 2)
	steps(t, r, 2)
	want(t, "each of its steps is one", r, 2, 2)
}

// P10.3: the step of one that has finished behind it does not count: with it nobody is left who was stepped.
func TestStepThenFinish(t *testing.T) {
	r := made(t, 2)
	steps(t, r, 0)
	finishes(t, r, 0)
	want(t, "stepped, then finished", r, 0, 1)
	r = made(t, 3)
	steps(t, r, 1)
	finishes(t, r, 1, 0)
	want(t, "one stepped, two finished", r, 0, 2)
}

// P10.3: with the last thread's Finish no round ends, whether it was stepped or not, and none is over any more.
func TestLastFinish(t *testing.T) {
	for threads := 1; threads <= api.MaxThreads; threads++ {
		for last := range threads {
			what := fmt.Sprint(last, " of ", threads)
			others := slices.Delete(to(threads), last, last+1)
			r := made(t, threads)
			steps(t, r, to(threads)...)
			finishes(t, r, others...)
			want(t, what+" is left", r, 1, last)
			finishes(t, r, last)
			want(t, what+" has finished", r, 1)
			steps(t, r, to(threads)...)
			finishes(t, r, to(threads)...)
			want(t, what+" has finished long ago", r, 1)
			wantErrno(t, what+", Step behind the end", r.Step(threads), api.ErrThread)
			wantErrno(t, what+", Finish behind the end", r.Finish(threads), api.ErrThread)
		}
	}
}

// P10.3: all finish, and nobody was ever stepped.
func TestFinishAlone(t *testing.T) {
	for threads := 1; threads <= api.MaxThreads; threads++ {
		r := made(t, threads)
		for thread := threads - 1; thread >= 0; thread-- {
			finishes(t, r, thread)
			want(t, fmt.Sprint(thread, " of ", threads), r, 0, to(thread)...)
		}
	}
}

// P10.3: one thread alone: each step is a round.
func TestOneThread(t *testing.T) {
	r := made(t, 1)
	for over := range 1000 {
		want(t, "one thread", r, over, 0)
		steps(t, r, 0)
	}
	finishes(t, r, 0)
	want(t, "finished", r, 1000)
	steps(t, r, 0)
	want(t, "stepped behind its Finish", r, 1000)
}

// P10.3, P10.4: as many threads as may be, forwards and backwards, then one less with each round.
func TestMaxThreads(t *testing.T) {
	const most = api.MaxThreads
	r := made(t, most)
	for thread := range most {
		want(t, fmt.Sprint("ahead of ", thread), r, 0, to(most)[thread:]...)
		steps(t, r, thread)
	}
	for thread := most - 1; thread >= 0; thread-- {
		want(t, fmt.Sprint("backwards, ahead of ", thread), r, 1, to(thread+1)...)
		steps(t, r, thread)
	}
	for gone := range most {
		want(t, fmt.Sprint(gone, " gone"), r, 2+gone, to(most)[gone:]...)
		steps(t, r, to(most)...)
		finishes(t, r, gone)
	}
	want(t, "all gone", r, 2+most)
}

// P10.5: behind a round's end each of those that go on is stepped once, in each order that there is: just one round more.
func TestOnceEachInAnyOrder(t *testing.T) {
	for threads := 1; threads <= 5; threads++ {
		for gone := range 1 << threads {
			r := made(t, threads)
			steps(t, r, to(threads)...)
			var left []int
			for thread := range threads {
				if gone>>thread&1 == 1 {
					finishes(t, r, thread)
				} else {
					left = append(left, thread)
				}
			}
			if len(left) > 0 {
				inEachOrder(left, nil, func(order []int) { wantOneRound(t, r.Clone(), order) })
			}
		}
	}
}

// wantOneRound steps each that goes on once, where a round has just begun.
func wantOneRound(t *testing.T, r *sched.Rounds, order []int) {
	t.Helper()
	over, due := r.Over(), slices.Sorted(slices.Values(order))
	for i, thread := range order {
		want(t, fmt.Sprint(order, " ahead of ", i), r, over, slices.Sorted(slices.Values(order[i:]))...)
		steps(t, r, thread)
	}
	want(t, fmt.Sprint("behind ", order), r, over+1, due...)
}

// inEachOrder hands on each order of those left, behind those that stand already.
func inEachOrder(left, stand []int, do func([]int)) {
	if len(left) == 0 {
		do(stand)
	}
	for i, one := range left {
		inEachOrder(slices.Delete(slices.Clone(left), i, i+1), append(slices.Clone(stand), one), do)
	}
}

// P10.4, R5: a clone stands as its origin does, at each number of threads, in a round, and when all have finished.
func TestCloneStandsSo(t *testing.T) {
	for threads := 1; threads <= api.MaxThreads; threads++ {
		r := made(t, threads)
		want(t, "a fresh one's clone", r.Clone(), 0, to(threads)...)
		steps(t, r, to(threads)...)
		steps(t, r, to(threads/2)...)
		c := r.Clone()
		want(t, "in a round", c, 1, to(threads)[threads/2:]...)
		wantErrno(t, "the clone's Step of one behind", c.Step(threads), api.ErrThread)
		wantErrno(t, "the clone's Step of the last", c.Step(threads-1), api.OK)
		finishes(t, r, to(threads)...)
		want(t, "all finished", r.Clone(), r.Over())
	}
}

// P10.4, R5: neither a clone nor its origin sees what is done to the other; nor does a clone's clone.
func TestCloneGoesItsOwnWay(t *testing.T) {
	r := made(t, 3)
	steps(t, r, 0, 1, 2, 1)
	c := r.Clone()
	d := c.Clone()
	steps(t, r, 0, 2, 2)
	want(t, "the origin stepped", r, 2, 0, 1)
	want(t, "the clone as it was", c, 1, 0, 2)
	finishes(t, c, 0, 2)
	want(t, "the clone finished two", c, 2, 1)
	want(t, "the origin as it was", r, 2, 0, 1)
	want(t, "the clone's clone as it was", d, 1, 0, 2)
	finishes(t, d, 1)
	want(t, "the clone's clone finished one", d, 1, 0, 2)
	finishes(t, r, 0, 1, 2)
	want(t, "the origin finished, and a round with 1", r, 3)
	want(t, "the clone goes on", c, 2, 1)
	want(t, "the clone's clone goes on", d, 1, 0, 2)
}

// P10.4, R4: Due is the caller's own, spare room too, and one answer is not another.
func TestDueIsTheCallers(t *testing.T) {
	for threads := 1; threads <= api.MaxThreads; threads++ {
		r := made(t, threads)
		c := r.Clone()
		first, second := r.Due(), r.Due()
		spoil(first)
		if !slices.Equal(second, to(threads)) {
			t.Errorf("with one answer spoilt another one is %v", second)
		}
		want(t, "with an answer spoilt", r, 0, to(threads)...)
		want(t, "with an answer spoilt, the clone", c, 0, to(threads)...)
		steps(t, r, 0)
		if !slices.Equal(second, to(threads)) {
			t.Errorf("with a step more an answer is %v", second)
		}
	}
}

// P10.4: to ask changes nothing.
func TestAskedOften(t *testing.T) {
	r := made(t, 4)
	steps(t, r, 3, 1)
	for range 10 {
		want(t, "asked again", r, 0, 0, 2)
		r.Clone()
	}
	steps(t, r, 0, 2)
	want(t, "the round is over", r, 1, 0, 1, 2, 3)
}
