package engine_test

import (
	"fmt"
	"testing"

	"beadle/engine"
)

// wantAlike lets two engines go on by one rule to their ends: no step tells them apart.
func wantAlike(t *testing.T, what string, e, other *engine.Engine, by rule) {
	t.Helper()
	for range tillOver(t, e) {
		thread := by.below(threadsOf(e))
		is, _ := e.Step(thread)
		if also, _ := other.Step(thread); is != also {
			t.Errorf("%s: Step(%d) = %v, %v", what, thread, is, also)
		}
		wantLook(t, what, e, lookAt(other))
		if t.Failed() {
			return
		}
	}
	for thread := range threadsOf(e) {
		wantNoStep(t, what, e, thread, 0)
	}
}

// P16.6: a clone behind each step of many threads: it stands as what it was made of; each goes on apart from the other, whichever is first, by other orders, as one that was never cloned does.
func TestClone(t *testing.T) {
	by := rule(1)
	var script []int
	first := made(t, busy())
	for range tillOver(t, first) {
		script = append(script, by.below(3))
		first.Run(script[len(script)-1:])
	}
	for behind := range len(script) + 1 {
		what := fmt.Sprint("behind ", behind, " steps")
		e, same, third := made(t, busy()), made(t, busy()), made(t, busy())
		for _, one := range []*engine.Engine{e, same, third} {
			one.Run(script[:behind])
		}
		c := e.Clone()
		was := lookAt(e)
		wantLook(t, what+", the clone", c, was)
		if behind%2 == 0 {
			wantAlike(t, what+", the clone", c, third, rule(behind))
			wantLook(t, what+", what was cloned", e, was)
			wantAlike(t, what+", what was cloned", e, same, rule(behind+1000))
		} else {
			wantAlike(t, what+", what was cloned", e, same, rule(behind+1000))
			wantLook(t, what+", the clone", c, was)
			wantAlike(t, what+", the clone", c, third, rule(behind))
		}
		if t.Failed() {
			return
		}
	}
}

// P16.6: a clone and what it was made of, step by step in turn, and clones of clones.
func TestClonesInTurn(t *testing.T) {
	by := rule(2)
	whole := finish(t, made(t, busy()))
	e := made(t, busy())
	for i := range tillOver(t, e) {
		c := e.Clone()
		d := c.Clone().Clone()
		for j := range tillOver(t, c) {
			c.Step((i + j) % 3)
			d.Step((i + j) % 3)
			if by.below(5) == 0 {
				d = d.Clone()
			}
		}
		wantLook(t, fmt.Sprint("clones behind ", i, " steps"), d, lookAt(c))
		wantLook(t, fmt.Sprint("clones behind ", i, " steps"), c, lookAt(whole))
		e.Step(i % 3)
	}
}

// P16.6: a thread's next call begins in the clone alone, or in what was cloned alone.
func TestCloneBetweenCalls(t *testing.T) {
	s := chapters()
	s.Threads[1] = append(s.Threads[1], s.Threads[0][0])
	e := ran(t, made(t, s), times(10, 1)...)
	c := e.Clone()
	ran(t, c, times(14, 1)...)
	if l := e.Deeds(); len(l) != 1 || l[0].Ended != 10 {
		t.Errorf("what was cloned: %+v", l)
	}
	ran(t, e, times(14, 0)...)
	ran(t, e, times(14, 1)...)
	if l := c.Deeds(); len(l) != 2 || l[1].Thread != 1 || l[1].Number != 1 {
		t.Errorf("the clone: %+v", l)
	}
	if l := e.Deeds(); len(l) != 3 || l[2].Thread != 1 || l[2].Number != 2 {
		t.Errorf("what was cloned, then: %+v", l)
	}
	if is, _ := c.Finished(0); is || c.Over() || !e.Over() {
		t.Errorf("over: %v, %v", c.Over(), e.Over())
	}
}
