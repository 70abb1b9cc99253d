package census

import (
	"beadle/api"
	"beadle/mem"
)

// Scan is an updater's look through the census, a word a step.
type Scan struct {
	base, threads int
	need          uint64
	at, polls     int
}

// Look begins one: it waits for all whose claim is below need.
func Look(p api.Plan, threads int, need uint64) *Scan {
	return &Scan{base: p.Census, threads: threads, need: need}
}

// Step does an access, and tells whether it is over.
func (s *Scan) Step(m *mem.Mem) (bool, api.Errno) {
	if s.over() {
		return false, api.ErrState
	}
	if !s.mayBe() {
		return false, api.ErrThread
	}
	if e := s.access(m); e != api.OK {
		return false, e
	}
	return s.over(), api.OK
}

// over is whether all are done with. A scan that may not be is never over, though it has no thread to go to.
func (s *Scan) over() bool {
	return s.mayBe() && s.at == s.threads
}

func (s *Scan) mayBe() bool {
	return s.threads >= 1 && s.threads <= api.MaxThreads
}

// access goes through the words past those that are done with, and leaves the rest to the steps to come as soon as there was an access.
func (s *Scan) access(m *mem.Mem) api.Errno {
words:
	for thread := range s.threads {
		if thread < s.at {
			continue words
		}
		word, e := m.Load(seat{s.base, thread}.place())
		switch {
		case e != api.OK:
			return e
		case s.lets(word):
			s.at = thread + 1
			break words
		default:
			s.polls++
			break words
		}
	}
	return api.OK
}

// lets is whether nobody is in, or one whose claim is need or more: held against the word, which is one above the claim.
func (s *Scan) lets(word uint64) bool {
	return word == nobody || word > s.need
}

// At is the thread whose word is next.
func (s *Scan) At() int {
	return s.at
}

// Polls is how many accesses found one too old.
func (s *Scan) Polls() int {
	return s.polls
}

// Clone is another one that stands as this one.
func (s *Scan) Clone() *Scan {
	other := *s
	return &other
}
