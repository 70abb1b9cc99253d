package census_test

import (
	"fmt"
	"math"
	"slices"
	"testing"

	"beadle/api"
	"beadle/census"
	"beadle/mem"
)

// stepper is a coming or a scan.
type stepper interface {
	Step(m *mem.Mem) (bool, api.Errno)
}

// wantSteps: as many steps as there are truths, each with an access of its own, each telling its truth.
func wantSteps(t *testing.T, what string, m *mem.Mem, s stepper, truths ...bool) {
	t.Helper()
	for i, want := range truths {
		count := m.Count()
		m.Open()
		over, e := s.Step(m)
		if over != want || e != api.OK {
			t.Errorf("%s, step %d: %v, %d, want %v", what, i, over, e, want)
		}
		if m.Count() != count+1 || isOpen(m) {
			t.Errorf("%s, step %d: %d accesses, open %v", what, i, m.Count()-count, isOpen(m))
		}
	}
}

// wantNoStep: refused, with nothing told and nothing changed, neither in the memory nor in what was stepped.
func wantNoStep(t *testing.T, what string, m *mem.Mem, s stepper, want api.Errno) {
	t.Helper()
	words, open, count := m.All(), isOpen(m), m.Count()
	was := told(s)
	if over, e := s.Step(m); over || e != want {
		t.Errorf("%s: %v, %d, want %d", what, over, e, want)
	}
	if told(s) != was {
		t.Errorf("%s: it tells %d, want %d", what, told(s), was)
	}
	wantMem(t, what, m, words, open, count)
}

// told are the two numbers that a coming or a scan tells.
func told(s stepper) [2]uint64 {
	switch s := s.(type) {
	case *census.Coming:
		return [2]uint64{s.Claim(), s.Stamp()}
	case *census.Scan:
		return [2]uint64{uint64(s.At()), uint64(s.Polls())}
	}
	return [2]uint64{}
}

func wantComing(t *testing.T, what string, c *census.Coming, claim, stamp uint64) {
	t.Helper()
	if c.Claim() != claim || c.Stamp() != stamp {
		t.Errorf("%s: Claim %d, Stamp %d, want %d, %d", what, c.Claim(), c.Stamp(), claim, stamp)
	}
}

func wantScan(t *testing.T, what string, s *census.Scan, at, polls int) {
	t.Helper()
	if s.At() != at || s.Polls() != polls {
		t.Errorf("%s: At %d, Polls %d, want %d, %d", what, s.At(), s.Polls(), at, polls)
	}
}

// P13.3, P13.4, P13.7: the three steps, their words, and what is told ahead of each and behind it, with two stamps of all kinds; a claim of 2^64 - 1 leaves the word 0.
func TestCome(t *testing.T) {
	p := api.Plan{Stamp: 1, Census: 2}
	for _, claim := range edges {
		for _, stamp := range edges {
			what := fmt.Sprint("claim ", claim, ", stamp ", stamp)
			m := holding(t, 40, claim, 41, 42, 43)
			c := census.Come(p, 1)
			wantComing(t, what+", begun", c, 0, 0)
			wantMem(t, what+", begun", m, []uint64{40, claim, 41, 42, 43}, false, 0)
			wantSteps(t, what, m, c, false)
			wantComing(t, what+", first", c, claim, 0)
			wantMem(t, what+", first", m, []uint64{40, claim, 41, 42, 43}, false, 1)
			m.Poke(1, 99)
			wantSteps(t, what, m, c, false)
			wantComing(t, what+", second", c, claim, 0)
			wantMem(t, what+", second", m, []uint64{40, 99, 41, claim + 1, 43}, false, 2)
			wantPeek(t, what, m, p, 1, claimOfWord(claim+1), claim != greatest, api.OK)
			m.Poke(1, stamp)
			m.Poke(3, 98)
			wantSteps(t, what, m, c, true)
			wantComing(t, what+", third", c, claim, stamp)
			wantMem(t, what+", third", m, []uint64{40, stamp, 41, 98, 43}, false, 3)
		}
	}
}

// claimOfWord is what Peek tells of a word.
func claimOfWord(word uint64) uint64 {
	if word == 0 {
		return 0
	}
	return word - 1
}

// P13.3, P13.4: a Step of what is over, open or not, with its words there or not: ErrState, and all stays told.
func TestComingThatIsOver(t *testing.T) {
	m, c := holding(t, 5, 40, 41), census.Come(api.Plan{Stamp: 0, Census: 1}, 1)
	wantSteps(t, "a coming", m, c, false, false)
	m.Poke(0, 6)
	wantSteps(t, "a coming", m, c, true)
	for range 3 {
		wantNoStep(t, "over", m, c, api.ErrState)
		wantComing(t, "over", c, 5, 6)
		poked(m, 77, 78, 79)
		m.Open()
	}
	wantNoStep(t, "over, without its words", filled(t, 1), c, api.ErrState)
	wantNoStep(t, "its clone", m, c.Clone(), api.ErrState)
	wantComing(t, "its clone", c.Clone(), 5, 6)
}

// P13.3: each step with no access open fails, however often, changes nothing, and is tried again; what is loaded is loaded then.
func TestComingWithNoneOpen(t *testing.T) {
	m, c := holding(t, 50, 51, 52), census.Come(api.Plan{Stamp: 0, Census: 1}, 1)
	for i, stamp := range []uint64{5, 6, 7} {
		for range 3 {
			m.Poke(0, 50)
			wantNoStep(t, fmt.Sprint("step ", i, ", none open"), m, c, api.ErrSpent)
		}
		m.Poke(0, stamp)
		wantSteps(t, fmt.Sprint("step ", i), m, c, i == 2)
	}
	wantComing(t, "at the end", c, 5, 7)
	wantMem(t, "at the end", m, []uint64{7, 51, 6}, false, 3)
}

// P13.3: a step looks at its own word alone; where that is not there, ErrPlace, be it open or not, and the step is tried again.
func TestComingOfWordsThatAreNotThere(t *testing.T) {
	p := api.Plan{Stamp: 2, Census: 3}
	c := census.Come(p, 1)
	for i, need := range []int{3, 5, 3} {
		for words := 1; words < need; words++ {
			short := filled(t, words)
			what := fmt.Sprint("step ", i, " of ", words, " words")
			wantNoStep(t, what+", not open", short, c, api.ErrPlace)
			short.Open()
			wantNoStep(t, what, short, c, api.ErrPlace)
		}
		just := filled(t, need)
		just.Poke(2, uint64(5+i))
		wantNoStep(t, fmt.Sprint("step ", i, ", just enough, not open"), just, c, api.ErrSpent)
		wantSteps(t, fmt.Sprint("step ", i, ", just enough"), just, c, i == 2)
	}
	wantComing(t, "at the end", c, 5, 7)
}

// P13.3: a stamp's word that is nowhere: the first step fails. A census that begins nowhere: the second one does, even where the thread's word would be there; the claim stays told.
func TestComingNowhere(t *testing.T) {
	m := filled(t, 4096)
	for _, at := range append([]int{4096}, notBases...) {
		for thread := range api.MaxThreads {
			what := fmt.Sprint("the thread ", thread, " at ", at)
			for range 2 {
				wantNoStep(t, what+", its stamp", m, census.Come(api.Plan{Stamp: at, Census: 1}, thread), api.ErrPlace)
				m.Open()
			}
			c := census.Come(api.Plan{Stamp: 4095, Census: at}, thread)
			wantSteps(t, what, m, c, false)
			for range 2 {
				wantNoStep(t, what, m, c, api.ErrPlace)
				wantComing(t, what, c, 1000+4095, 0)
				m.Open()
			}
			wantNoStep(t, what, m, c, api.ErrPlace)
			m = filled(t, 4096)
		}
	}
}

// P13.3: threads that may not be: ErrThread ahead of ErrPlace and ErrSpent, as often as it is tried.
func TestComingOfNoThread(t *testing.T) {
	for _, thread := range notThreads {
		for _, at := range append([]int{0, 3, 10, 4096}, notBases...) {
			for _, p := range []api.Plan{{Stamp: at, Census: 1}, {Stamp: 0, Census: at}, {Stamp: at, Census: at}} {
				c, m := census.Come(p, thread), filled(t, 20)
				what := fmt.Sprint("the thread ", thread, " at ", p)
				wantNoStep(t, what, m, c, api.ErrThread)
				m.Open()
				wantNoStep(t, what+", open", m, c, api.ErrThread)
				wantNoStep(t, what+", its clone", m, c.Clone(), api.ErrThread)
				wantComing(t, what, c, 0, 0)
			}
		}
	}
}

// P13.3: each thread that may be, at the beginnings at which its word is the first of a memory's, in the midst, and the last.
func TestComingOfEachThread(t *testing.T) {
	for thread := range api.MaxThreads {
		for _, p := range []api.Plan{{Stamp: 0, Census: 0}, {Stamp: 11, Census: 4}, {Stamp: 4095, Census: 4095 - thread}, {Stamp: 5, Census: 4095 - thread}} {
			m := filled(t, 4096)
			want := m.All()
			k := want[p.Stamp]
			want[p.Census+thread] = k + 1
			c := census.Come(p, thread)
			what := fmt.Sprint("the thread ", thread, " of ", p)
			wantSteps(t, what, m, c, false, false, true)
			wantMem(t, what, m, want, false, 3)
			wantComing(t, what, c, k, want[p.Stamp])
			wantPeek(t, what, m, p, thread, k, true, api.OK)
		}
	}
}

// P13.3: where the stamp's word is the thread's own, the claim's store is what the third step loads.
func TestComingToTheStampsWord(t *testing.T) {
	for _, k := range edges {
		m, c := holding(t, 40, k, 41), census.Come(api.Plan{Stamp: 1, Census: 0}, 1)
		wantSteps(t, "one word", m, c, false, false, true)
		wantComing(t, "one word", c, k, k+1)
		wantMem(t, "one word", m, []uint64{40, k + 1, 41}, false, 3)
	}
}

// P13.3, P13.5: no other number of the plan is looked at, whatever it is.
func TestStepsAndTheRestOfThePlan(t *testing.T) {
	for _, x := range append(notWords(3), 0, 1, 2) {
		p := api.Plan{Stamp: 0, Census: 1, Next: x, Serving: x, Cells: x, Words: x}
		m, c := holding(t, 5, 40, 41), census.Come(p, 1)
		wantSteps(t, fmt.Sprint(p), m, c, false, false, true)
		wantMem(t, fmt.Sprint(p), m, []uint64{5, 40, 6}, false, 3)

		p.Stamp = x
		s := census.Look(p, 2, 0)
		wantSteps(t, fmt.Sprint(p), m, s, false, true)
		wantScan(t, fmt.Sprint(p), s, 2, 0)
		wantMem(t, fmt.Sprint(p), m, []uint64{5, 40, 6}, false, 5)
	}
}

// P13.4, R5: a clone behind each step, and what it was made of, go their own ways.
func TestCloneOfAComing(t *testing.T) {
	p := api.Plan{Stamp: 0, Census: 1}
	for from := range 4 {
		for _, cloneFirst := range []bool{false, true} {
			m, c := holding(t, 5, 40, 41), census.Come(p, 1)
			for i := range from {
				m.Poke(0, uint64(5+i))
				wantSteps(t, "ahead of the clone", m, c, i == 2)
			}
			d, other := c.Clone(), m.Clone()
			if told(d) != told(c) {
				t.Errorf("the clone behind %d steps tells %d, want %d", from, told(d), told(c))
			}
			if cloneFirst {
				comeOn(t, other, d, from, 80)
				comeOn(t, m, c, from, 5)
			} else {
				comeOn(t, m, c, from, 5)
				comeOn(t, other, d, from, 80)
			}
			claim, stamp := uint64(80), uint64(82)
			if from > 0 {
				claim = 5
			}
			if from > 2 {
				stamp = 7
			}
			wantComing(t, "what was cloned", c, 5, 7)
			wantComing(t, fmt.Sprint("the clone behind ", from, " steps"), d, claim, stamp)
			wantMem(t, "what was cloned", m, []uint64{7, 40, 6}, false, 3)
			wantMem(t, "the clone", other, []uint64{stamp, 40, claim + 1}, false, 3)
		}
	}
}

// comeOn does the steps that are left of a coming; ahead of the i-th the stamp is laid: base and i.
func comeOn(t *testing.T, m *mem.Mem, c *census.Coming, from int, base uint64) {
	t.Helper()
	for i := from; i < 3; i++ {
		m.Poke(0, base+uint64(i))
		wantSteps(t, "behind the clone", m, c, i == 2)
	}
	wantNoStep(t, "at the end", m, c, api.ErrState)
}

// R5: two that were made alike are not one.
func TestAlikeAreTwo(t *testing.T) {
	p := api.Plan{Stamp: 0, Census: 1}
	m := holding(t, 5, 0, 1)
	a, b := census.Come(p, 0), census.Come(p, 0)
	wantSteps(t, "a coming", m, a, false, false, true)
	wantComing(t, "the other", b, 0, 0)
	wantSteps(t, "the other", m, b, false, false, true)
	v, w := census.Look(p, 2, 1), census.Look(p, 2, 1)
	wantSteps(t, "a scan", m, v, false, false)
	wantScan(t, "a scan", v, 1, 1)
	wantScan(t, "the other", w, 0, 0)
	wantSteps(t, "the other", m, w, false, false, false)
	wantScan(t, "the other", w, 1, 2)
	wantScan(t, "a scan", v, 1, 1)
}

// P13.5, P13.6: one thread, of each word and each need: over at once, or a poll as often as it is tried.
func TestLookAtOneWord(t *testing.T) {
	for _, need := range edges {
		words := slices.Clone(edges)
		for _, word := range append(words, need-1, need, need+1) {
			m, s := holding(t, 40, word, 41), census.Look(api.Plan{Stamp: -1, Census: 1}, 1, need)
			what := fmt.Sprint("the word ", word, ", need ", need)
			wantScan(t, what+", begun", s, 0, 0)
			if word == 0 || word > need {
				wantSteps(t, what, m, s, true)
				wantScan(t, what, s, 1, 0)
				wantMem(t, what, m, []uint64{40, word, 41}, false, 1)
				m.Open()
				wantNoStep(t, what+", over", m, s, api.ErrState)
				continue
			}
			for polls := range 3 {
				wantSteps(t, what, m, s, false)
				wantScan(t, what, s, 0, polls+1)
			}
			wantMem(t, what, m, []uint64{40, word, 41}, false, 3)
		}
	}
}

// P13.5, P13.6, P13.7: scans of each number of threads, with a poll or more at one of them, which is then left, or claimed anew.
func TestLookThroughThreads(t *testing.T) {
	for threads := 1; threads <= api.MaxThreads; threads++ {
		for old := range threads {
			for _, then := range []uint64{0, 8, 9, greatest} {
				for polls := range 4 {
					lookThrough(t, threads, old, then, polls)
				}
			}
		}
	}
}

// lookThrough is a scan with the need 7 in which one thread's word is too old at first.
func lookThrough(t *testing.T, threads, old int, then uint64, polls int) {
	t.Helper()
	m, s := filled(t, 3+threads), census.Look(api.Plan{Stamp: 0, Census: 3}, threads, 7)
	what := fmt.Sprint(threads, " threads, ", old, " too old, ", polls, " times, then ", then)
	want := m.All()
	for thread := range threads {
		wantScan(t, what, s, thread, polls*min(1, max(0, thread-old)))
		if thread == old {
			for i := range polls {
				m.Poke(3+old, uint64(7-i))
				wantSteps(t, what, m, s, false)
				wantScan(t, what, s, old, i+1)
			}
			m.Poke(3+old, then)
			want[3+old] = then
			wantScan(t, what, s, old, polls)
		}
		wantSteps(t, what, m, s, thread == threads-1)
	}
	wantScan(t, what, s, threads, polls)
	wantMem(t, what, m, want, false, threads+polls)
	for range 2 {
		wantNoStep(t, what+", over", m, s, api.ErrState)
		m.Open()
	}
	wantNoStep(t, what+", over, its clone", m, s.Clone(), api.ErrState)
}

// P13.5: one word a step, the next thread's, and as it is then: all others are laid too old around it, those ahead and those behind.
func TestLookLoadsOneWordAStep(t *testing.T) {
	for threads := 1; threads <= api.MaxThreads; threads++ {
		m, s := filled(t, 12), census.Look(api.Plan{Census: 2}, threads, 5)
		for thread := range threads {
			for i := range 12 {
				m.Poke(i, 1)
			}
			wantSteps(t, "too old", m, s, false)
			wantScan(t, "too old", s, thread, thread+1)
			m.Poke(2+thread, 0)
			wantSteps(t, "done with", m, s, thread == threads-1)
			wantScan(t, "done with", s, thread+1, thread+1)
		}
		if m.Count() != 2*threads {
			t.Errorf("%d threads: %d accesses", threads, m.Count())
		}
	}
}

// P13.5: who is done with is not asked again, though a claim that is too old come there.
func TestLookDoesNotGoBack(t *testing.T) {
	m, s := holding(t, 0, 9, 3), census.Look(api.Plan{Census: 0}, 3, 5)
	wantSteps(t, "0 and 1", m, s, false, false)
	poked(m, 1, 1)
	wantSteps(t, "2, too old", m, s, false)
	wantScan(t, "2, too old", s, 2, 1)
	m.Poke(2, 6)
	wantSteps(t, "2", m, s, true)
	wantScan(t, "2", s, 3, 1)
}

// P13.5, P13.6: numbers of threads that may not be: ErrThread ahead of ErrPlace and ErrSpent, as often as it is tried; the thread 0 stays the next one.
func TestLookThroughNoThreads(t *testing.T) {
	for _, threads := range append([]int{0}, notThreads...) {
		if threads == api.MaxThreads {
			continue
		}
		for _, base := range append([]int{0, 3, 4096}, notBases...) {
			s, m := census.Look(api.Plan{Census: base}, threads, 5), filled(t, 20)
			what := fmt.Sprint(threads, " threads at ", base)
			for range 2 {
				wantNoStep(t, what, m, s, api.ErrThread)
				wantNoStep(t, what+", its clone", m, s.Clone(), api.ErrThread)
				wantScan(t, what, s, 0, 0)
				m.Open()
			}
		}
	}
}

// P13.5: a census that begins nowhere: ErrPlace, open or not, even where a later thread's word would be there.
func TestLookNowhere(t *testing.T) {
	for _, words := range []int{1, 20, 4096} {
		m := filled(t, words)
		open := m.Clone()
		open.Open()
		for _, base := range notWords(words) {
			for threads := 1; threads <= api.MaxThreads; threads++ {
				s := census.Look(api.Plan{Census: base}, threads, 0)
				what := fmt.Sprint(threads, " threads at ", base, " of ", words)
				wantNoStep(t, what+", not open", m, s, api.ErrPlace)
				wantNoStep(t, what, open, s, api.ErrPlace)
				wantScan(t, what, s, 0, 0)
			}
		}
	}
}

// P13.5: a scan goes as far as there are words; behind them ErrPlace, and where the word is there the step is tried again.
func TestLookPastTheLastWord(t *testing.T) {
	for _, words := range []int{1, 5, 4090, 4095} {
		for there := 1; there < min(words+1, api.MaxThreads); there++ {
			p := api.Plan{Stamp: -1, Census: words - there}
			m, s := filled(t, words), census.Look(p, there+1, 3)
			what := fmt.Sprint(there, " words of ", words)
			wantSteps(t, what, m, s, slices.Repeat([]bool{false}, there)...)
			for range 3 {
				wantNoStep(t, what, m, s, api.ErrPlace)
				wantScan(t, what, s, there, 0)
				m.Open()
			}
			more := filled(t, words+1)
			wantNoStep(t, what+", one more, not open", more, s, api.ErrSpent)
			wantSteps(t, what+", one more", more, s, true)
			wantScan(t, what+", one more", s, there+1, 0)
		}
	}
}

// P13.5, P13.6: each step with no access open fails, however often, is no poll, and is tried again.
func TestLookWithNoneOpen(t *testing.T) {
	m, s := holding(t, 0, 2, 0), census.Look(api.Plan{Census: 0}, 3, 5)
	for i, want := range []struct {
		at, polls int
		over      bool
	}{{1, 0, false}, {1, 1, false}, {1, 2, false}, {2, 2, false}, {3, 2, true}} {
		if i == 3 {
			m.Poke(1, 6)
		}
		for range 3 {
			wantNoStep(t, fmt.Sprint("step ", i, ", none open"), m, s, api.ErrSpent)
		}
		wantSteps(t, fmt.Sprint("step ", i), m, s, want.over)
		wantScan(t, fmt.Sprint("step ", i), s, want.at, want.polls)
	}
	wantMem(t, "at the end", m, []uint64{0, 6, 0}, false, 5)
	wantNoStep(t, "over, none open", m, s, api.ErrState)
	wantNoStep(t, "over, without its words", filled(t, 1), s, api.ErrState)
}

// P13.5: where the stamp's word stands within the census, it is taken for a thread's like any other.
func TestLookAtTheStampsWord(t *testing.T) {
	p := api.Plan{Stamp: 1, Census: 0}
	m, s := holding(t, 0, 5, 0), census.Look(p, 3, 5)
	wantSteps(t, "the stamp 5", m, s, false, false)
	wantScan(t, "the stamp 5", s, 1, 1)
	m.Open()
	wantErrno(t, "Publish", census.Publish(m, p, 6), api.OK)
	wantSteps(t, "the stamp 6", m, s, false, true)
	wantScan(t, "the stamp 6", s, 3, 1)
}

// P13.6, R5: a clone in the midst, and what it was made of, go their own ways.
func TestCloneOfAScan(t *testing.T) {
	for from := range 5 {
		for _, cloneFirst := range []bool{false, true} {
			m, s := holding(t, 0, 2, 0), census.Look(api.Plan{Census: 0}, 3, 5)
			for range from {
				wantSteps(t, "ahead of the clone", m, s, false)
			}
			at, polls := min(1, from), max(0, from-1)
			d := s.Clone()
			wantScan(t, "the clone", d, at, polls)
			left, old := holding(t, 0, 0, 0), holding(t, 1, 1, 1)
			ends := func() {
				wantSteps(t, "what was cloned", left, s, append(slices.Repeat([]bool{false}, 2-at), true)...)
			}
			polled := func() { wantSteps(t, "the clone", old, d, false, false, false, false) }
			if cloneFirst {
				polled()
				wantScan(t, "what was cloned", s, at, polls)
				ends()
			} else {
				ends()
				wantScan(t, "the clone", d, at, polls)
				polled()
			}
			wantScan(t, "what was cloned", s, 3, polls)
			wantScan(t, "the clone", d, at, polls+4)
			wantNoStep(t, "what was cloned", left, s, api.ErrState)
		}
	}
}

// P13.5, P13.6: polls are counted as they come, however many.
func TestManyPolls(t *testing.T) {
	m, s := holding(t, 0, 1), census.Look(api.Plan{Census: 0}, 2, math.MaxUint64)
	wantSteps(t, "0", m, s, false)
	for i := range 70000 {
		m.Open()
		if over, e := s.Step(m); over || e != api.OK || s.Polls() != i+1 || s.At() != 1 {
			t.Fatalf("poll %d: %v, %d, At %d, Polls %d", i, over, e, s.At(), s.Polls())
		}
	}
	m.Poke(1, 0)
	wantSteps(t, "1", m, s, true)
	wantScan(t, "at the end", s, 2, 70000)
	wantMem(t, "at the end", m, []uint64{0, 0}, false, 70002)
}
