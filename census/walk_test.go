package census_test

import (
	"fmt"
	"math"
	"slices"
	"testing"

	"beadle/api"
	"beadle/census"
	"beadle/mem"
)

// world is a memory by the words of the chapter: its words, whether an access may be, how many there were.
type world struct {
	words []uint64
	open  bool
	count int
}

// access is why an access of a word is refused, or OK.
func (w *world) access(at int) api.Errno {
	switch {
	case at < 0 || at >= len(w.words):
		return api.ErrPlace
	case !w.open:
		return api.ErrSpent
	}
	w.open = false
	w.count++
	return api.OK
}

// place is where a thread's word lies; -1: nowhere.
func place(base, thread int) int {
	if base < 0 || base > 4096 {
		return -1
	}
	return base + thread
}

func isThread(thread int) bool { return 0 <= thread && thread <= 7 }

// spell is a coming or a scan by those words.
type spell struct {
	scans         bool
	stampAt, base int
	n             int // the thread, or how many
	need          uint64
	done          int // of a coming: how many steps
	at, polls     int
	claim, stamp  uint64
}

// step is what a step makes of the spell and the world, and what it tells.
func (s *spell) step(w *world) (bool, api.Errno) {
	if s.scans {
		return s.stepScan(w)
	}
	if s.done == 3 {
		return false, api.ErrState
	}
	if !isThread(s.n) {
		return false, api.ErrThread
	}
	at := s.stampAt
	if s.done == 1 {
		at = place(s.base, s.n)
	}
	if e := w.access(at); e != api.OK {
		return false, e
	}
	switch s.done {
	case 0:
		s.claim = w.words[at]
	case 1:
		w.words[at] = s.claim + 1
	default:
		s.stamp = w.words[at]
	}
	s.done++
	return s.done == 3, api.OK
}

func (s *spell) stepScan(w *world) (bool, api.Errno) {
	if !isThread(s.n - 1) {
		return false, api.ErrThread
	}
	if s.at == s.n {
		return false, api.ErrState
	}
	at := place(s.base, s.at)
	if e := w.access(at); e != api.OK {
		return false, e
	}
	if word := w.words[at]; word != 0 && word <= s.need {
		s.polls++
		return false, api.OK
	}
	s.at++
	return s.at == s.n, api.OK
}

// told are the two numbers that it tells.
func (s *spell) told() [2]uint64 {
	if s.scans {
		return [2]uint64{uint64(s.at), uint64(s.polls)}
	}
	return [2]uint64{s.claim, s.stamp}
}

// walker is a walk's memory and what goes on over it, with the model of each.
type walker struct {
	m     *mem.Mem
	world world
	going []stepper
	are   []spell
	met   map[string]int
}

// P13.1 to P13.7, R5: comings, scans, their clones and the single calls, many at once over few words, with steps that are refused.
func TestWalks(t *testing.T) {
	met := map[string]int{}
	for seed := range 500 {
		walk(t, rule(seed), met)
	}
	all := []api.Errno{api.OK, api.ErrState, api.ErrThread, api.ErrPlace, api.ErrSpent}
	for name, errs := range map[string][]api.Errno{
		"coming": all, "scan": all, "Stamp": {api.OK, api.ErrPlace, api.ErrSpent}, "Publish": {api.OK, api.ErrPlace, api.ErrSpent},
		"Leave": {api.OK, api.ErrThread, api.ErrPlace, api.ErrSpent}, "Peek": {api.OK, api.ErrThread, api.ErrPlace},
	} {
		for _, e := range errs {
			if what := fmt.Sprint(name, " ", e); met[what] < 100 {
				t.Errorf("%s was met %d times", what, met[what])
			}
		}
	}
	for _, what := range []string{"come", "scanned", "polled", "cloned"} {
		if met[what] < 300 {
			t.Errorf("%s was met %d times", what, met[what])
		}
	}
}

func walk(t *testing.T, by rule, met map[string]int) {
	t.Helper()
	words := 1 + by.below(12)
	w := &walker{m: filled(t, words), met: met}
	for i := range words {
		w.m.Poke(i, stampBy(&by))
	}
	w.world = world{words: w.m.All()}
	for range 150 {
		if len(w.going) == 0 || by.below(6) == 0 {
			w.begin(&by)
		}
		if len(w.going) < 8 && by.below(12) == 0 {
			w.clone(by.below(len(w.going)))
		}
		if by.below(4) > 0 {
			w.m.Open()
			w.world.open = true
		}
		if by.below(4) == 0 {
			w.call(t, &by)
		} else {
			w.step(t, by.below(len(w.going)))
		}
		w.look(t)
	}
}

// stampBy is a small stamp mostly, and else one of the edges.
func stampBy(by *rule) uint64 {
	if by.below(5) == 0 {
		return edges[by.below(len(edges))]
	}
	return uint64(by.below(4))
}

// planBy is a plan whose words are there mostly.
func (w *walker) planBy(by *rule) api.Plan {
	p := api.Plan{Stamp: by.below(len(w.world.words)), Census: by.below(min(3, len(w.world.words)))}
	if by.below(12) == 0 {
		p.Stamp = []int{-1, len(w.world.words), 4096, math.MaxInt}[by.below(4)]
	}
	if by.below(12) == 0 {
		p.Census = []int{-2, -1, 4096, 4097, math.MinInt, math.MaxInt}[by.below(6)]
	}
	return p
}

func threadBy(by *rule) int {
	if by.below(12) == 0 {
		return []int{-1, 7, 8, 9, math.MinInt, math.MaxInt}[by.below(6)]
	}
	return by.below(4)
}

// begin adds a coming or a scan, in place of an old one if there are many.
func (w *walker) begin(by *rule) {
	p := w.planBy(by)
	s := spell{scans: by.below(2) == 0, stampAt: p.Stamp, base: p.Census, n: threadBy(by), need: stampBy(by)}
	var one stepper = census.Come(p, s.n)
	if s.scans {
		one = census.Look(p, s.n, s.need)
	}
	if len(w.going) < 6 {
		w.going, w.are = append(w.going, one), append(w.are, s)
		return
	}
	i := by.below(len(w.going))
	w.going[i], w.are[i] = one, s
}

func (w *walker) clone(i int) {
	var c stepper
	switch one := w.going[i].(type) {
	case *census.Coming:
		c = one.Clone()
	case *census.Scan:
		c = one.Clone()
	}
	w.going, w.are = append(w.going, c), append(w.are, w.are[i])
	w.met["cloned"]++
}

func (w *walker) step(t *testing.T, i int) {
	t.Helper()
	polls := w.are[i].polls
	want, fault := w.are[i].step(&w.world)
	over, e := w.going[i].Step(w.m)
	if over != want || e != fault {
		t.Errorf("%+v: %v, %d, want %v, %d", w.are[i], over, e, want, fault)
	}
	w.met[fmt.Sprint(map[bool]string{false: "coming", true: "scan"}[w.are[i].scans], " ", e)]++
	w.met["polled"] += w.are[i].polls - polls
	if over {
		w.met[map[bool]string{false: "come", true: "scanned"}[w.are[i].scans]]++
	}
}

// call is one of the calls that are no steps of an object.
func (w *walker) call(t *testing.T, by *rule) {
	t.Helper()
	p, thread, stamp := w.planBy(by), threadBy(by), stampBy(by)
	what := fmt.Sprintf("%+v, %+v", w.world, p)
	switch by.below(4) {
	case 0:
		e, told := w.world.access(p.Stamp), uint64(0)
		if e == api.OK {
			told = w.world.words[p.Stamp]
		}
		wantStamp(t, what, w.m, p, told, e)
		w.met[fmt.Sprint("Stamp ", e)]++
	case 1:
		e := w.world.access(p.Stamp)
		if e == api.OK {
			w.world.words[p.Stamp] = stamp
		}
		wantErrno(t, what+": Publish", census.Publish(w.m, p, stamp), e)
		w.met[fmt.Sprint("Publish ", e)]++
	case 2:
		e := api.ErrThread
		if isThread(thread) {
			e = w.world.access(place(p.Census, thread))
		}
		if e == api.OK {
			w.world.words[p.Census+thread] = 0
		}
		wantErrno(t, what+": Leave", census.Leave(w.m, p, thread), e)
		w.met[fmt.Sprint("Leave ", e)]++
	default:
		w.peek(t, what, p, thread)
	}
}

func (w *walker) peek(t *testing.T, what string, p api.Plan, thread int) {
	t.Helper()
	e, word := api.OK, uint64(0)
	at := place(p.Census, thread)
	switch {
	case !isThread(thread):
		e = api.ErrThread
	case at < 0 || at >= len(w.world.words):
		e = api.ErrPlace
	default:
		word = w.world.words[at]
	}
	wantPeek(t, what, w.m, p, thread, claimOfWord(word), word != 0, e)
	w.met[fmt.Sprint("Peek ", e)]++
}

// look holds all that is told against the models.
func (w *walker) look(t *testing.T) {
	t.Helper()
	wantMem(t, "a walk", w.m, w.world.words, w.world.open, w.world.count)
	for i, one := range w.going {
		if told(one) != w.are[i].told() {
			t.Errorf("%+v: it tells %d", w.are[i], told(one))
		}
	}
}

// P13.7: three steps, and as many as threads and polls, whatever is laid between them.
func TestHowManyAccesses(t *testing.T) {
	for seed := range 300 {
		by := rule(seed)
		m, c := filled(t, 12), census.Come(api.Plan{Stamp: 0, Census: 1}, by.below(8))
		for i := range 3 {
			poked(m, stampBy(&by), stampBy(&by), stampBy(&by))
			wantSteps(t, "a coming", m, c, i == 2)
		}
		if m.Count() != 3 {
			t.Errorf("a coming: %d accesses", m.Count())
		}
		threads := 1 + by.below(8)
		s := census.Look(api.Plan{Census: 1}, threads, stampBy(&by))
		for over := false; !over && !t.Failed(); {
			poked(m, slices.Repeat([]uint64{stampBy(&by)}, 12)...)
			m.Open()
			is, e := s.Step(m)
			wantErrno(t, "a scan", e, api.OK)
			over = is
		}
		if m.Count()-3 != threads+s.Polls() {
			t.Errorf("a scan of %d threads with %d polls: %d accesses", threads, s.Polls(), m.Count()-3)
		}
	}
}
