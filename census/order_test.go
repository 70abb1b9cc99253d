package census_test

import (
	"fmt"
	"testing"

	"beadle/api"
	"beadle/census"
	"beadle/mem"
)

// rule is a source of numbers that are the same with each run.
type rule uint64

func (r *rule) below(n int) int {
	*r = *r*6364136223846793005 + 1442695040888963407
	return int(uint64(*r>>33) % uint64(n))
}

// guest is a thread that reads: how many of the steps of its coming it has done, what that told, and how often it is yet to come.
type guest struct {
	done         int
	claim, stamp uint64
	left         int
}

func (g guest) in() bool   { return g.done == 3 }
func (g guest) over() bool { return g.done == 0 && g.left == 0 }

// What an updater does next.
const (
	marking = iota
	scanning
	publishing
)

// host is the updater: what it does next, the stamp that it has loaded, where its scan stands, and how often it is yet to publish.
type host struct {
	is    int
	stamp uint64
	at    int
	left  int
}

// standing is all by which the one house can go on otherwise than another.
type standing struct {
	words  [9]uint64
	guests [8]guest
	host   host
}

// house is readers and an updater over one memory; the standing's words are what it should hold: the stamp's, then the census.
type house struct {
	standing
	m       *mem.Mem
	p       api.Plan
	threads int
	comings [8]*census.Coming
	scan    *census.Scan
}

// opened is a house into which nobody has come, over a memory of zeros.
func opened(t *testing.T, words int, p api.Plan, threads, visits, stamps int) house {
	t.Helper()
	m, e := mem.New(words)
	wantErrno(t, "New", e, api.OK)
	h := house{m: m, p: p, threads: threads}
	for thread := range threads {
		h.guests[thread].left = visits
	}
	h.host.left = stamps
	return h
}

func (h house) fork() house {
	h.m = h.m.Clone()
	for thread, c := range h.comings {
		if c != nil {
			h.comings[thread] = c.Clone()
		}
	}
	if h.scan != nil {
		h.scan = h.scan.Clone()
	}
	return h
}

// over is whether a thread, or the updater, which is the last of all, has nothing more to do.
func (h house) over(who int) bool {
	if who == h.threads {
		return h.host.is == marking && h.host.left == 0
	}
	return h.guests[who].over()
}

// waits is whether a scan stands before somebody whose claim is too old.
func (h house) waits() bool {
	if h.host.is != scanning {
		return false
	}
	word := h.words[1+h.host.at]
	return word != 0 && word-1 < h.host.stamp
}

// step is the next step of a thread, or of the updater.
func (h *house) step(t *testing.T, who int) {
	t.Helper()
	count := h.m.Count()
	h.m.Open()
	switch {
	case who == h.threads:
		h.stepHost(t)
	case h.guests[who].in():
		wantErrno(t, "Leave", census.Leave(h.m, h.p, who), api.OK)
		h.guests[who] = guest{left: h.guests[who].left}
		h.words[1+who] = 0
	default:
		h.come(t, who)
	}
	if h.m.Count() != count+1 {
		t.Errorf("%+v: a step of %d has %d accesses", h.standing, who, h.m.Count()-count)
	}
	h.wantAll(t)
}

// come is a step of a thread's coming.
func (h *house) come(t *testing.T, who int) {
	t.Helper()
	g := &h.guests[who]
	if g.done == 0 {
		h.comings[who] = census.Come(h.p, who)
		g.left--
	}
	over, e := h.comings[who].Step(h.m)
	switch g.done {
	case 0:
		g.claim = h.words[0]
	case 1:
		h.words[1+who] = g.claim + 1
	case 2:
		g.stamp = h.words[0]
	}
	g.done++
	if over != g.in() || e != api.OK {
		t.Errorf("%+v: a coming of %d: %v, %d", h.standing, who, over, e)
	}
}

// stepHost is the updater's next step: it marks, scans, publishes, and begins again.
func (h *house) stepHost(t *testing.T) {
	t.Helper()
	u := &h.host
	switch u.is {
	case marking:
		wantStamp(t, "marking", h.m, h.p, h.words[0], api.OK)
		*u = host{is: scanning, stamp: h.words[0], left: u.left - 1}
		h.scan = census.Look(h.p, h.threads, u.stamp)
	case scanning:
		h.look(t)
	case publishing:
		wantErrno(t, "Publish", census.Publish(h.m, h.p, u.stamp+1), api.OK)
		h.words[0] = u.stamp + 1
		*u = host{left: u.left}
	}
}

// look is a step of the scan: it goes on, unless it has found somebody whose claim is too old.
func (h *house) look(t *testing.T) {
	t.Helper()
	u, polls := &h.host, h.scan.Polls()
	over, e := h.scan.Step(h.m)
	if h.waits() {
		polls++
	} else {
		u.at++
	}
	if over != (u.at == h.threads) || e != api.OK {
		t.Errorf("%+v: a scan: %v, %d", h.standing, over, e)
	}
	wantScan(t, "a scan", h.scan, u.at, polls)
	if over {
		u.is = publishing
	}
}

// wantAll: all words are as they should be, each that has come has a stamp that is not below its claim, and where a scan is over and the next stamp is not published, just the scan's.
func (h *house) wantAll(t *testing.T) {
	t.Helper()
	h.wantWords(t)
	for thread, g := range h.guests[:h.threads] {
		if g.done > 0 {
			wantComing(t, "a coming", h.comings[thread], g.claim, g.stamp)
		}
		if g.in() && h.comings[thread].Claim() > h.comings[thread].Stamp() {
			t.Errorf("%+v: %d has a claim above its stamp", h.standing, thread)
		}
		if g.in() && h.host.is == publishing && h.comings[thread].Stamp() != h.host.stamp {
			t.Errorf("%+v: %d has another stamp than the scan's", h.standing, thread)
		}
	}
}

func (h *house) wantWords(t *testing.T) {
	t.Helper()
	stamp, _ := h.m.Peek(h.p.Stamp)
	if stamp != h.words[0] {
		t.Errorf("%+v: the stamp's word is %d", h.standing, stamp)
	}
	for thread := range h.threads {
		word := h.words[1+thread]
		claim, in, e := census.Peek(h.m, h.p, thread)
		if claim != claimOfWord(word) || in != (word != 0) || e != api.OK {
			t.Errorf("%+v: Peek(%d): %d, %v, %d", h.standing, thread, claim, in, e)
		}
	}
}

// meets is what orders of steps have come to.
type meets struct {
	states  int
	waits   int // scans that stand before somebody too old
	between int // threads that were in, with a scan over and the next stamp not published
	older   int // among them those with a claim below the stamp
}

func (n *meets) met(h house) {
	n.states++
	if h.waits() {
		n.waits++
	}
	for _, g := range h.guests[:h.threads] {
		if h.host.is == publishing && g.in() {
			n.between++
			if g.claim < g.stamp {
				n.older++
			}
		}
	}
}

// eachOrder goes on from a house in each order of steps that there can be, once from each standing that it comes to.
func eachOrder(t *testing.T, h house, seen map[standing]int, n *meets) {
	t.Helper()
	if t.Failed() {
		return
	}
	if _, been := seen[h.standing]; been {
		return
	}
	seen[h.standing] = len(seen)
	n.met(h)
	for who := range h.threads + 1 {
		if !h.over(who) {
			next := h.fork()
			next.step(t, who)
			eachOrder(t, next, seen, n)
		}
	}
}

// P13.7, P13.8: of few readers and an updater, every order of steps.
func TestEachOrderOfSteps(t *testing.T) {
	for _, c := range []struct{ threads, visits, stamps, least int }{{1, 4, 4, 500}, {2, 2, 3, 4000}, {2, 3, 3, 10000}, {3, 1, 3, 15000}, {3, 2, 2, 40000}} {
		var n meets
		eachOrder(t, opened(t, 1+c.threads, api.Plan{Stamp: 0, Census: 1}, c.threads, c.visits, c.stamps), map[standing]int{}, &n)
		if n.states < c.least || n.waits < c.least/50 || n.between < c.least/50 || n.older < c.least/200 {
			t.Errorf("%+v: just %+v", c, n)
		}
	}
}

// P13.7, P13.8: eight readers in a memory of an engine, in long rows of steps by several manners of choosing, with steps between them that are refused, and clones that go on in place of what they were made of.
func TestLongOrdersOfSteps(t *testing.T) {
	var n meets
	refused := 0
	p, e := mem.Place(api.Config{Cells: 2, Threads: 8, Fuel: 9, Writes: 1})
	wantErrno(t, "Place", e, api.OK)
	for seed := range 400 {
		by := rule(seed)
		h := opened(t, p.Words, p, 1+by.below(8), 3+by.below(10), 3+by.below(10))
		keen := by.below(4)
		for who := chosen(h, &by, keen); who >= 0 && !t.Failed(); who = chosen(h, &by, keen) {
			if by.below(8) == 0 {
				h = h.fork()
				h.refused(t)
				refused++
			}
			h.step(t, who)
			n.met(h)
		}
		want := make([]uint64, p.Words)
		want[p.Stamp] = h.words[0]
		wantMem(t, "at the end", h.m, want, false, h.m.Count())
	}
	if n.states < 50000 || n.waits < 1000 || n.between < 5000 || n.older < 200 || refused < 2000 {
		t.Errorf("too little was met: %+v, %d refused", n, refused)
	}
}

// chosen is whose step comes next: anybody's; mostly the updater's, or that of the one for whom it waits; mostly that of one that is on its way in; or the updater's mostly till its scan is over, and then those of whoever is on its way in. -1: all are over.
func chosen(h house, by *rule, keen int) int {
	var going, coming []int
	for who := range h.threads + 1 {
		if h.over(who) {
			continue
		}
		going = append(going, who)
		if who < h.threads && h.guests[who].done < 3 {
			coming = append(coming, who)
		}
	}
	switch between := h.host.is == publishing; {
	case len(going) == 0:
		return -1
	case keen%2 == 1 && h.waits() && by.below(2) == 0:
		return h.host.at
	case keen%2 == 1 && !between && !h.over(h.threads) && by.below(2) == 0:
		return h.threads
	case (keen == 2 || keen == 3 && between) && len(coming) > 0 && by.below(4) > 0:
		return coming[by.below(len(coming))]
	}
	return going[by.below(len(going))]
}

// refused asks for all that a step can ask without a step's beginning: all goes on as if nobody had.
func (h *house) refused(t *testing.T) {
	t.Helper()
	words, count := h.m.All(), h.m.Count()
	wantStamp(t, "refused", h.m, h.p, 0, api.ErrSpent)
	wantErrno(t, "refused", census.Publish(h.m, h.p, 5), api.ErrSpent)
	wantErrno(t, "refused", census.Leave(h.m, h.p, h.threads-1), api.ErrSpent)
	for thread, g := range h.guests[:h.threads] {
		if 0 < g.done && g.done < 3 {
			wantNoStep(t, fmt.Sprint("refused, ", thread), h.m, h.comings[thread], api.ErrSpent)
		}
	}
	if h.host.is == scanning {
		wantNoStep(t, "refused, the scan", h.m, h.scan, api.ErrSpent)
	}
	wantMem(t, "refused", h.m, words, false, count)
}
