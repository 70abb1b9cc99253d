package census_test

import (
	"fmt"
	"math"
	"slices"
	"testing"

	"beadle/api"
	"beadle/census"
	"beadle/mem"
)

const greatest = math.MaxUint64

// edges are stamps, and words, at which a narrower whole number or one with a sign would tell otherwise.
var edges = []uint64{
	0, 1, 2, 3, 255, 256, 1<<31 - 1, 1 << 31, 1<<32 - 1, 1 << 32, 1<<32 + 1, 1 << 53, 1<<53 + 1,
	1<<63 - 1, 1 << 63, 1<<63 + 1, greatest - 2, greatest - 1, greatest,
}

// notThreads are threads that may not be, some of which a narrower whole number would take for one that may be.
var notThreads = []int{
	-1, -2, -7, -8, -9, math.MinInt8, math.MinInt32, math.MinInt, math.MinInt + 1,
	8, 9, 15, 16, 255, 256, 4096, 1 << 31, 1 << 32, 1<<32 + 1, 1 << 62, math.MaxInt - 1, math.MaxInt,
}

// notBases are numbers of words at which no census can begin.
var notBases = []int{
	-1, -2, -3, -7, -8, -4096, math.MinInt32, math.MinInt, math.MinInt + 1,
	4097, 4098, 1 << 31, 1 << 32, 1<<32 + 1, math.MaxInt - 7, math.MaxInt - 1, math.MaxInt,
}

// notWords are numbers that no word has in a memory of so many.
func notWords(words int) []int {
	return append([]int{words, words + 1, 4096}, notBases...)
}

// filled is a memory whose words are all unlike, none of them 0, and not open.
func filled(t *testing.T, words int) *mem.Mem {
	t.Helper()
	m, e := mem.New(words)
	if e != api.OK {
		t.Fatalf("New(%d): %d", words, e)
	}
	for i := range words {
		m.Poke(i, uint64(1000+i))
	}
	return m
}

// holding is a memory with these words.
func holding(t *testing.T, words ...uint64) *mem.Mem {
	t.Helper()
	m := filled(t, len(words))
	poked(m, words...)
	return m
}

// poked lays words, the first one first, beside the steps.
func poked(m *mem.Mem, words ...uint64) {
	for i, word := range words {
		m.Poke(i, word)
	}
}

func isOpen(m *mem.Mem) bool {
	_, e := m.Clone().Load(0)
	return e == api.OK
}

func wantErrno(t *testing.T, what string, got, want api.Errno) {
	t.Helper()
	if got != want {
		t.Errorf("%s: %d, want %d", what, got, want)
	}
}

// wantMem holds all of a memory against what it should be.
func wantMem(t *testing.T, what string, m *mem.Mem, words []uint64, open bool, count int) {
	t.Helper()
	if all := m.All(); !slices.Equal(all, words) {
		t.Errorf("%s: the words are %d, want %d", what, all, words)
	}
	if isOpen(m) != open || m.Count() != count {
		t.Errorf("%s: open %v, %d accesses, want %v, %d", what, isOpen(m), m.Count(), open, count)
	}
}

func wantStamp(t *testing.T, what string, m *mem.Mem, p api.Plan, want uint64, fault api.Errno) {
	t.Helper()
	if stamp, e := census.Stamp(m, p); stamp != want || e != fault {
		t.Errorf("%s: Stamp = %d, %d, want %d, %d", what, stamp, e, want, fault)
	}
}

func wantPeek(t *testing.T, what string, m *mem.Mem, p api.Plan, thread int, claim uint64, in bool, fault api.Errno) {
	t.Helper()
	words, open, count := m.All(), isOpen(m), m.Count()
	if k, is, e := census.Peek(m, p, thread); k != claim || is != in || e != fault {
		t.Errorf("%s: Peek(%d) = %d, %v, %d, want %d, %v, %d", what, thread, k, is, e, claim, in, fault)
	}
	wantMem(t, what+": Peek", m, words, open, count)
}

// call is one of the three that have an access by themselves: with which word, what it tells, and what it lays.
type call struct {
	name string
	plan func(at int) api.Plan
	do   func(m *mem.Mem, p api.Plan) (uint64, api.Errno)
	lays func(word uint64) uint64
}

// calls are these three, for a thread.
func calls(thread int) []call {
	stamp := func(at int) api.Plan { return api.Plan{Stamp: at, Census: -1} }
	place := func(at int) api.Plan { return api.Plan{Stamp: -1, Census: at - thread} }
	return []call{
		{"Stamp", stamp, census.Stamp, func(word uint64) uint64 { return word }},
		{"Publish", stamp, func(m *mem.Mem, p api.Plan) (uint64, api.Errno) {
			return 0, census.Publish(m, p, 77)
		}, func(word uint64) uint64 { return 77 }},
		{"Leave", place, func(m *mem.Mem, p api.Plan) (uint64, api.Errno) {
			return 0, census.Leave(m, p, thread)
		}, func(word uint64) uint64 { return 0 }},
	}
}

// P13.1, P13.2: at each word of memories of several sizes, the least and the greatest that there are among them: one access, and no other word is changed.
func TestAtEachWord(t *testing.T) {
	for _, words := range []int{1, 2, 3, 12, 4096} {
		for _, thread := range []int{0, 1, 7} {
			for _, at := range slices.Compact([]int{0, words / 2, words - 1}) {
				for _, c := range calls(thread) {
					if c.name == "Leave" && at < thread {
						continue
					}
					atAWord(t, c, words, at)
				}
			}
		}
	}
}

func atAWord(t *testing.T, c call, words, at int) {
	t.Helper()
	m := filled(t, words)
	all := m.All()
	m.Open()
	told, e := c.do(m, c.plan(at))
	what := fmt.Sprint(c.name, " of the word ", at, " of ", words)
	wantErrno(t, what, e, api.OK)
	if c.name == "Stamp" && told != all[at] {
		t.Errorf("%s: %d, want %d", what, told, all[at])
	}
	all[at] = c.lays(all[at])
	wantMem(t, what, m, all, false, 1)
}

// P13.1, P13.2, R2: with no access open nothing has changed, and nothing is told beside the error.
func TestSpent(t *testing.T) {
	for _, thread := range []int{0, 1, 7} {
		for _, c := range calls(thread) {
			for at := thread; at < 9; at++ {
				m := filled(t, 9)
				all := m.All()
				told, e := c.do(m, c.plan(at))
				wantErrno(t, c.name+", not open", e, api.ErrSpent)
				if told != 0 {
					t.Errorf("%s, not open: %d", c.name, told)
				}
				wantMem(t, c.name+", not open", m, all, false, 0)
			}
		}
	}
}

// P13.1, P13.2: a second one within a step, of whichever kind, is refused.
func TestSecondWithinAStep(t *testing.T) {
	for _, first := range calls(0) {
		for _, second := range calls(1) {
			m := filled(t, 3)
			m.Open()
			_, e := first.do(m, first.plan(0))
			wantErrno(t, first.name, e, api.OK)
			all := m.All()
			what := first.name + ", then " + second.name
			told, e := second.do(m, second.plan(1))
			wantErrno(t, what, e, api.ErrSpent)
			if told != 0 {
				t.Errorf("%s: %d", what, told)
			}
			wantMem(t, what, m, all, false, 1)
		}
	}
}

// P13.1, R2: no such word: ErrPlace, open or not, and the memory stays as open as it was.
func TestStampNowhere(t *testing.T) {
	for _, words := range []int{1, 2, 5, 4096} {
		for _, at := range notWords(words) {
			m := filled(t, words)
			all := m.All()
			p := api.Plan{Stamp: at}
			for _, open := range []bool{false, true} {
				if open {
					m.Open()
				}
				what := fmt.Sprint("the word ", at, " of ", words, ", open ", open)
				wantStamp(t, what, m, p, 0, api.ErrPlace)
				wantErrno(t, what, census.Publish(m, p, 5), api.ErrPlace)
				wantMem(t, what, m, all, open, 0)
			}
		}
	}
}

// nowhere: Leave and Peek of a thread are refused, open or not, with nothing told and nothing changed.
func nowhere(t *testing.T, m *mem.Mem, p api.Plan, thread int, want api.Errno) {
	t.Helper()
	all, m := m.All(), m.Clone()
	for _, open := range []bool{false, true} {
		if open {
			m.Open()
		}
		what := fmt.Sprint("the thread ", thread, " at ", p.Census, " of ", m.Len(), ", open ", open)
		wantErrno(t, what+": Leave", census.Leave(m, p, thread), want)
		wantPeek(t, what, m, p, thread, 0, false, want)
		wantMem(t, what, m, all, open, 0)
	}
}

// P13.2: threads that may not be: ErrThread ahead of ErrPlace and ErrSpent, even where there would be a word.
func TestNoThread(t *testing.T) {
	for _, words := range []int{1, 20, 4096} {
		m := filled(t, words)
		for _, thread := range notThreads {
			for _, base := range append([]int{0, 3, 10, 4095, 4096}, notBases...) {
				nowhere(t, m, api.Plan{Census: base}, thread, api.ErrThread)
			}
		}
	}
}

// P13.2: a census that begins nowhere: ErrPlace, even where a later thread's word would be there.
func TestNoBase(t *testing.T) {
	for _, words := range []int{1, 20, 4096} {
		m := filled(t, words)
		for _, base := range append([]int{4096}, notBases...) {
			for thread := range api.MaxThreads {
				nowhere(t, m, api.Plan{Census: base}, thread, api.ErrPlace)
			}
		}
	}
}

// P13.2: a word that is just there, and one that just is not.
func TestLastWord(t *testing.T) {
	for _, words := range []int{1, 2, 9, 4095, 4096} {
		for thread := range api.MaxThreads {
			for base := max(0, words-10); base <= words; base++ {
				m, p := filled(t, words), api.Plan{Stamp: -1, Census: base}
				if base+thread >= words {
					nowhere(t, m, p, thread, api.ErrPlace)
					continue
				}
				what := fmt.Sprint("the thread ", thread, " at ", base, " of ", words)
				all := m.All()
				wantPeek(t, what, m, p, thread, all[base+thread]-1, true, api.OK)
				m.Open()
				wantErrno(t, what, census.Leave(m, p, thread), api.OK)
				all[base+thread] = 0
				wantMem(t, what, m, all, false, 1)
				wantPeek(t, what, m, p, thread, 0, false, api.OK)
			}
		}
	}
}

// P13.1: a stamp is told as it was published, whatever was there.
func TestPublishOfAnyStamp(t *testing.T) {
	for _, was := range edges {
		for _, stamp := range edges {
			m, p := holding(t, 40, was, 41), api.Plan{Stamp: 1}
			what := fmt.Sprint(stamp, " behind ", was)
			m.Open()
			wantStamp(t, what, m, p, was, api.OK)
			wantMem(t, what, m, []uint64{40, was, 41}, false, 1)
			m.Open()
			wantErrno(t, what, census.Publish(m, p, stamp), api.OK)
			wantMem(t, what, m, []uint64{40, stamp, 41}, false, 2)
			m.Open()
			wantStamp(t, what, m, p, stamp, api.OK)
			wantMem(t, what, m, []uint64{40, stamp, 41}, false, 3)
		}
	}
}

// P13.2: Peek of any word, of each thread, open or not; Leave of whoever is in, or nobody.
func TestPeekAndLeaveOfAnyWord(t *testing.T) {
	p := api.Plan{Stamp: -1, Census: 1}
	for _, word := range edges {
		for thread := range api.MaxThreads {
			words := []uint64{40, 41, 42, 43, 44, 45, 46, 47, 48, 49}
			words[1+thread] = word
			m := holding(t, words...)
			what := fmt.Sprint("the word is ", word)
			for range 2 {
				if word == 0 {
					wantPeek(t, what, m, p, thread, 0, false, api.OK)
				} else {
					wantPeek(t, what, m, p, thread, word-1, true, api.OK)
				}
				m.Open()
			}
			wantErrno(t, what, census.Leave(m, p, thread), api.OK)
			words[1+thread] = 0
			wantMem(t, what, m, words, false, 1)
			wantPeek(t, what, m, p, thread, 0, false, api.OK)
		}
	}
}

// P13.1, P13.2: no other number of the plan is looked at, whatever it is.
func TestNoOtherNumberOfThePlan(t *testing.T) {
	for _, x := range append(notWords(3), 0, 1, 2) {
		m := holding(t, 5, 6, 7)
		p := api.Plan{Stamp: 1, Census: x, Next: x, Serving: x, Cells: x, Words: x}
		m.Open()
		wantStamp(t, fmt.Sprint(p), m, p, 6, api.OK)
		m.Open()
		wantErrno(t, fmt.Sprint(p), census.Publish(m, p, 9), api.OK)
		wantMem(t, fmt.Sprint(p), m, []uint64{5, 9, 7}, false, 2)

		p = api.Plan{Stamp: x, Census: 1, Next: x, Serving: x, Cells: x, Words: x}
		wantPeek(t, fmt.Sprint(p), m, p, 1, 6, true, api.OK)
		m.Open()
		wantErrno(t, fmt.Sprint(p), census.Leave(m, p, 1), api.OK)
		wantMem(t, fmt.Sprint(p), m, []uint64{5, 9, 0}, false, 3)
	}
}

// P13.1, P13.2: the stamp's word may be one of the census.
func TestStampWithinTheCensus(t *testing.T) {
	m, p := holding(t, 40, 5, 41), api.Plan{Stamp: 1, Census: 0}
	m.Open()
	wantErrno(t, "one word", census.Publish(m, p, 9), api.OK)
	wantPeek(t, "one word", m, p, 1, 8, true, api.OK)
	m.Open()
	wantErrno(t, "one word", census.Leave(m, p, 1), api.OK)
	m.Open()
	wantStamp(t, "one word", m, p, 0, api.OK)
	wantMem(t, "one word", m, []uint64{40, 0, 41}, false, 3)
}

// P13.1 to P13.6: the examples of the chapter.
func TestExamples(t *testing.T) {
	p := api.Plan{Stamp: 0, Census: 1}
	m := holding(t, 0, 0, 0, 0)
	c := census.Come(p, 1)
	wantSteps(t, "first", m, c, false, false)
	m.Open()
	wantErrno(t, "first", census.Publish(m, p, 1), api.OK)
	wantSteps(t, "first", m, c, true)

	wantComing(t, "second", c, 0, 1)
	wantPeek(t, "second", m, p, 1, 0, true, api.OK)
	wantPeek(t, "second", m, p, 0, 0, false, api.OK)

	s := census.Look(p, 2, 1)
	wantSteps(t, "third", m, s, false, false, false)
	wantScan(t, "third", s, 1, 2)

	m.Open()
	wantErrno(t, "fourth", census.Leave(m, p, 1), api.OK)
	wantSteps(t, "fourth", m, s, true)
	wantScan(t, "fourth", s, 2, 2)
	m.Open()
	wantNoStep(t, "fourth", m, s, api.ErrState)

	wantErrno(t, "fifth", census.Leave(m, p, 8), api.ErrThread)
	wantErrno(t, "fifth", census.Leave(m, p, 5), api.ErrPlace)
	wantNoStep(t, "fifth", m, census.Come(p, -1), api.ErrThread)
	wantNoStep(t, "fifth", m, census.Look(p, 0, 0), api.ErrThread)
}
