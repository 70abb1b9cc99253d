package sched_test

import (
	"fmt"
	"slices"
	"testing"

	"beadle/api"
	"beadle/sched"
)

// rule is a source of numbers that are the same with each run.
type rule uint64

func (r *rule) below(n int) int {
	*r = *r*6364136223846793005 + 1442695040888963407
	return int(uint64(*r>>33) % uint64(n))
}

// call is a Step or a Finish of a thread.
type call struct {
	finish bool
	thread int
}

// model keeps the calls alone, and reckons all from the first one on whenever it is asked.
type model struct {
	threads int
	calls   []call
}

// stands is how many rounds are over behind all calls, and who is due.
func (m model) stands() (int, []int) {
	over, left, due := 0, to(m.threads), to(m.threads)
	without := func(l []int, thread int) []int {
		return slices.DeleteFunc(slices.Clone(l), func(one int) bool { return one == thread })
	}
	for _, c := range m.calls {
		if !slices.Contains(left, c.thread) {
			continue
		}
		due = without(due, c.thread)
		if c.finish {
			left = without(left, c.thread)
		}
		if len(due) == 0 && len(left) > 0 {
			over, due = over+1, slices.Clone(left)
		}
	}
	return over, due
}

// with is the model behind a call more; the calls of the one before stay its own.
func (m model) with(c call) model {
	return model{m.threads, append(slices.Clip(m.calls), c)}
}

// does makes the call, and holds the answer and all that is told behind it against the model and against P10.5.
func does(t *testing.T, r *sched.Rounds, m model, c call) {
	t.Helper()
	was, e, wanted := r.Over(), api.OK, api.OK
	if c.finish {
		e = r.Finish(c.thread)
	} else {
		e = r.Step(c.thread)
	}
	if c.thread < 0 || c.thread >= m.threads {
		wanted = api.ErrThread
	}
	what := fmt.Sprint(m.threads, " threads behind ", m.calls)
	wantErrno(t, what, e, wanted)
	over, due := m.stands()
	want(t, what, r, over, due...)
	if rise := r.Over() - was; rise < 0 || rise > 1 {
		t.Errorf("%s: Over rises by %d", what, rise)
	}
}

// P10.2 to P10.5: each row of calls up to a length, at few threads, with those of threads that there are not.
func TestEachRowOfCalls(t *testing.T) {
	longest := map[int]int{1: 5, 2: 5, 3: 5, 4: 4}
	for threads, long := range longest {
		follow(t, made(t, threads), model{threads: threads}, long)
	}
}

// follow goes on with each call that there can be, with a clone for each: the one that is cloned must stay as it was.
func follow(t *testing.T, r *sched.Rounds, m model, long int) {
	t.Helper()
	if long == 0 || t.Failed() {
		return
	}
	for thread := -1; thread <= m.threads; thread++ {
		for _, finish := range []bool{false, true} {
			c := call{finish, thread}
			next, behind := r.Clone(), m.with(c)
			does(t, next, behind, c)
			follow(t, next, behind, long-1)
		}
	}
	over, due := m.stands()
	want(t, fmt.Sprint("cloned often, ", m.calls), r, over, due...)
}

// tally is what a walk has met.
type tally struct {
	steps, again, idle, none     int
	stepEnds, finishEnds, allEnd int
	cloned                       int
}

func (n *tally) met(m model, c call) {
	over, due := m.stands()
	behind, then := m.with(c).stands()
	switch {
	case c.thread < 0 || c.thread >= m.threads:
		n.none++
	case len(due) > 0 && len(then) == 0:
		n.allEnd++
	case behind > over && c.finish:
		n.finishEnds++
	case behind > over:
		n.stepEnds++
	case slices.Equal(due, then) && len(due) > 0:
		n.again++
	case len(due) == 0:
		n.idle++
	default:
		n.steps++
	}
}

// P10.2 to P10.5, R5: long rows of calls, with clones that go on by themselves.
func TestWalks(t *testing.T) {
	var n tally
	for seed := range 400 {
		walk(t, rule(seed), &n)
	}
	if n.steps < 1000 || n.again < 1000 || n.idle < 200 || n.none < 1000 || n.stepEnds < 1000 || n.finishEnds < 50 || n.allEnd < 50 || n.cloned < 500 {
		t.Errorf("too little was met: %+v", n)
	}
}

func walk(t *testing.T, by rule, n *tally) {
	t.Helper()
	threads := 1 + by.below(api.MaxThreads)
	seldom := 2 + by.below(60)
	rounds, models := []*sched.Rounds{made(t, threads)}, []model{{threads: threads}}
	for range 100 {
		i := by.below(len(rounds))
		if len(rounds) < 5 && by.below(20) == 0 {
			rounds, models = append(rounds, rounds[i].Clone()), append(models, models[i])
			n.cloned++
		}
		c := call{by.below(seldom) == 0, by.below(threads)}
		if by.below(10) == 0 {
			c.thread = by.below(40) - 20
		}
		n.met(models[i], c)
		models[i] = models[i].with(c)
		does(t, rounds[i], models[i], c)
	}
	for i, m := range models {
		over, due := m.stands()
		want(t, fmt.Sprint("at the end of a walk, ", m.calls), rounds[i], over, due...)
	}
}

// P10.5: as long as some thread has not finished, somebody is due; and each script that steps all that go on once ends one round.
func TestAlwaysSomebodyIsDue(t *testing.T) {
	by := rule(5)
	for range 300 {
		threads := 1 + by.below(api.MaxThreads)
		r, left := made(t, threads), to(threads)
		for len(left) > 0 {
			order := slices.Clone(left)
			for i := range order {
				j := i + by.below(len(order)-i)
				order[i], order[j] = order[j], order[i]
			}
			wantOneRound(t, r, order)
			if len(r.Due()) == 0 {
				t.Fatalf("%d go on and none is due", len(left))
			}
			if by.below(3) == 0 {
				gone := by.below(len(left))
				finishes(t, r, left[gone])
				left = slices.Delete(left, gone, gone+1)
			}
		}
		want(t, "all have finished", r, r.Over())
	}
}
