package engine_test

import (
	"slices"
	"testing"

	"beadle/api"
	"beadle/engine"
	"beadle/machine"
	"beadle/mem"
)

// The parts of the document's tables, a reader's and an updater's.
const (
	claiming = iota
	enrolling
	stamping
	reading // a reader's instructions
	leaving
	drawing
	waiting
	marking
	updating // an updater's instructions
	scanning
	storing
	publishing
	passing
	over
)

// The steps of a reader's read that may be next; noRead: an instruction is.
const (
	noRead = iota
	loadNow
	loadVersion
	loadWas
)

// play is a transaction by the document's tables: what it does is reckoned from plain words; its program alone is left to a machine.
type play struct {
	d       api.Deed
	machine *machine.Machine
	part    int
	claim   uint64
	stamp   uint64
	load    int // of the read that is under way
	cell    int
	version uint64
	now     uint64
	ticket  uint64
	had     []uint64
	at      int         // the thread that it scans
	stores  [][2]uint64 // the places that it writes and what they get, in order
}

// model is an engine by the document: threads, rounds, and what was published, each reckoned by itself.
type model struct {
	s                    api.Setup
	plan                 api.Plan
	words                []uint64
	state                []float64
	next                 []int
	going                []*play
	plays                []*play
	left, due            []bool
	steps, rounds, count int
}

func modelOf(s api.Setup) *model {
	plan, _ := mem.Place(s.Config)
	n := s.Config.Threads
	m := &model{s: s, plan: plan, words: make([]uint64, plan.Words), state: make([]float64, s.Config.Cells), next: make([]int, n), going: make([]*play, n), left: make([]bool, n)}
	for cell, x := range s.Start {
		m.words[m.word(cell, 1)], m.state[cell] = fixed(x), of(fixed(x))
	}
	for thread := range n {
		m.left[thread] = len(m.calls(thread)) > 0
	}
	m.due = slices.Clone(m.left)
	return m
}

// word is where a cell's Version (0), Now (1) or Was (2) lies.
func (m *model) word(cell, which int) int { return m.plan.Cells + 3*cell + which }

func (m *model) calls(thread int) []api.Call {
	if thread < len(m.s.Threads) {
		return m.s.Threads[thread]
	}
	return nil
}

// step does a step of a thread, and tells whether it did something.
func (m *model) step(thread int) bool {
	if !m.left[thread] {
		return false
	}
	m.steps++
	if m.going[thread] == nil {
		m.begin(thread)
	}
	p := m.going[thread]
	p.d.Steps++
	m.count += m.does(p)
	if p.part == over {
		p.d.End, p.d.Ended, m.going[thread] = p.machine.End(), m.steps, nil
	}
	m.due[thread] = false
	m.settle()
	if p.part == over && m.next[thread] == len(m.calls(thread)) {
		m.left[thread], m.due[thread] = false, false
		m.settle()
	}
	for _, one := range m.plays {
		if one.part != over || one == p {
			one.d.To = m.rounds
		}
	}
	return true
}

// settle ends the round, if there is anybody left and nobody is due.
func (m *model) settle() {
	if slices.Contains(m.left, true) && !slices.Contains(m.due, true) {
		m.rounds++
		m.due = slices.Clone(m.left)
	}
}

func (m *model) begin(thread int) {
	no := m.next[thread]
	m.next[thread]++
	one := m.calls(thread)[no]
	p := &play{machine: machine.New(m.s.Config, m.s.Programs[one.Program], one.Args)}
	p.d = api.Deed{Thread: thread, No: no, Program: one.Program, Tag: m.s.Programs[one.Program].Tag, Mark: -1, Begun: m.steps, From: m.rounds}
	for _, x := range one.Args {
		p.d.Args = append(p.d.Args, of(fixed(x)))
	}
	if p.d.Tag == api.Updates {
		p.part = drawing
	}
	m.going[thread], m.plays = p, append(m.plays, p)
}

// does does a step of a transaction, and tells how many accesses it had.
func (m *model) does(p *play) int {
	switch p.part {
	case claiming:
		p.claim, p.part = m.words[m.plan.Stamp], enrolling
	case enrolling:
		m.words[m.plan.Census+p.d.Thread], p.part = p.claim+1, stamping
	case stamping:
		p.stamp, p.part = m.words[m.plan.Stamp], reading
		p.d.Mark = int(p.stamp)
	case reading:
		return m.reads(p)
	case leaving:
		m.words[m.plan.Census+p.d.Thread], p.part = 0, over
	case drawing:
		m.draws(p)
	case waiting:
		if m.words[m.plan.Serving] == p.ticket {
			p.part = marking
		}
	case marking:
		p.stamp, p.part = m.words[m.plan.Stamp], updating
	case updating:
		return m.updates(p)
	case scanning:
		m.scans(p)
	case storing:
		m.words[p.stores[0][0]] = p.stores[0][1]
		if p.stores = p.stores[1:]; len(p.stores) == 0 {
			p.part = publishing
		}
	case publishing:
		m.publishes(p)
	case passing:
		m.words[m.plan.Serving], p.part = p.ticket+1, over
	}
	return 1
}

func (m *model) reads(p *play) int {
	switch p.load {
	case noRead:
		ask := p.machine.Step()
		if ask.Kind == api.AskEnd {
			p.part = leaving
		}
		if ask.Kind != api.AskRead {
			return 0
		}
		p.cell, p.version, p.load = ask.Cell, m.words[m.word(ask.Cell, 0)], loadNow
		if p.version > p.stamp {
			p.load = loadWas
		}
	case loadNow:
		p.now, p.load = m.words[m.word(p.cell, 1)], loadVersion
	case loadVersion:
		p.load = loadWas
		if m.words[m.word(p.cell, 0)] == p.version {
			p.machine.Give(of(p.now))
			p.load = noRead
		}
	case loadWas:
		p.machine.Give(of(m.words[m.word(p.cell, 2)]))
		p.load = noRead
	}
	return 1
}

// draws counts who is ahead one by one: who has drawn and is not over.
func (m *model) draws(p *play) {
	for _, other := range m.plays {
		if other.part > drawing && other.part < over {
			p.d.Ahead++
		}
	}
	p.ticket, p.part = m.words[m.plan.Next], waiting
	m.words[m.plan.Next]++
	p.d.Mark = int(p.ticket)
}

func (m *model) updates(p *play) int {
	ask := p.machine.Step()
	switch {
	case ask.Kind == api.AskRead:
		p.machine.Give(of(m.words[m.word(ask.Cell, 1)]))
		return 1
	case ask.Kind == api.AskWrite && ask.First:
		p.had = append(p.had, m.words[m.word(ask.Cell, 1)])
		return 1
	case ask.Kind == api.AskEnd && p.machine.End() == committed:
		p.part = scanning
	case ask.Kind == api.AskEnd:
		p.part = passing
	}
	return 0
}

func (m *model) scans(p *play) {
	if word := m.words[m.plan.Census+p.at]; word != 0 && word <= p.stamp {
		return
	}
	if p.at++; p.at < m.s.Config.Threads {
		return
	}
	p.part = publishing
	for i, one := range p.machine.Writes() {
		p.stores = append(p.stores, [2]uint64{uint64(m.word(one.Cell, 2)), p.had[i]}, [2]uint64{uint64(m.word(one.Cell, 0)), p.stamp + 1}, [2]uint64{uint64(m.word(one.Cell, 1)), bitsOf(one.X)})
		p.part = storing
	}
}

func (m *model) publishes(p *play) {
	m.words[m.plan.Stamp], p.part = p.stamp+1, passing
	p.d.Number = int(p.stamp + 1)
	for _, one := range p.machine.Writes() {
		m.state[one.Cell] = one.X
	}
}

func (m *model) look() look {
	l := look{state: m.state, words: m.words, over: !slices.Contains(m.left, true), steps: m.steps, rounds: m.rounds, count: m.count}
	for _, p := range m.plays {
		p.d.Reads, p.d.Writes, p.d.Out = p.machine.Reads(), p.machine.Writes(), p.machine.Out()
		l.deeds = append(l.deeds, p.d)
	}
	for _, is := range m.left {
		l.finished = append(l.finished, !is)
	}
	return l
}

func (m *model) clone() *model {
	o := *m
	o.words, o.state, o.next, o.left, o.due = slices.Clone(m.words), slices.Clone(m.state), slices.Clone(m.next), slices.Clone(m.left), slices.Clone(m.due)
	o.going, o.plays = make([]*play, len(m.going)), nil
	for _, p := range m.plays {
		other := *p
		other.machine, other.had, other.stores = p.machine.Clone(), slices.Clone(p.had), slices.Clone(p.stores)
		o.plays = append(o.plays, &other)
		if m.going[p.d.Thread] == p {
			o.going[p.d.Thread] = &other
		}
	}
	return &o
}

// instrsBy is some instructions, reads and writes among them most of all.
func instrsBy(by *rule, places, cells int) []api.Instr {
	address := push(float64(by.below(cells)))
	switch k := by.below(24); {
	case k < 5:
		return []api.Instr{address, read, emit}
	case k < 7:
		return []api.Instr{address, read, read}
	case k < 11:
		return []api.Instr{push(float64(by.below(5))), address, write}
	case k < 14:
		return []api.Instr{address, read, push(float64(by.below(3))), in(api.OpTwo, api.TwoAdd), push(float64(by.below(cells))), write}
	case k == 14:
		return []api.Instr{in(api.OpArg, by.below(8)), in(api.OpDup, 0), emit, address, write}
	case k == 15:
		return []api.Instr{address, read, in(api.OpIf, by.below(places))}
	case k == 16:
		return []api.Instr{in(api.OpJump, by.below(places))}
	case k == 17:
		return []api.Instr{in(api.OpCall, by.below(places))}
	case k == 18:
		return []api.Instr{[]api.Instr{halt, in(api.OpRet, 0), in(api.OpAbort, by.below(100)), in(api.OpDrop, 0), push(of(odd[by.below(len(odd))]))}[by.below(5)]}
	case k == 19:
		return []api.Instr{[]api.Instr{push(float64(cells)), push(-1), address}[by.below(3)], read}
	}
	return []api.Instr{push(float64(by.below(4))), in(api.OpDup, 0), in(api.OpTwo, 1+by.below(12)), emit}
}

// programBy is a program of either tag, now and then of one that is none. Most of them come to a good end, and each of the places 0 to 5 is one of the program's.
func programBy(by *rule, cells int) api.Program {
	switch by.below(6) {
	case 0:
		return readsBy(by, cells)
	case 1:
		return addsBy(by, cells)
	}
	p := program([]int{api.Updates, api.Updates, api.Reads}[by.below(3)])
	if by.below(20) == 0 {
		p.Tag = 3 + by.below(9)
	}
	for range 1 + by.below(7) {
		p.Code = append(p.Code, instrsBy(by, 6, cells)...)
	}
	if by.below(5) > 0 {
		p.Code = append(p.Code, halt)
	}
	for len(p.Code) < 6 {
		p.Code = append(p.Code, halt)
	}
	return p
}

// readsBy is a reader that commits, if its fuel lasts: it reads and emits, many times.
func readsBy(by *rule, cells int) api.Program {
	p := program(api.Reads)
	for range 2 + by.below(6) {
		p.Code = append(p.Code, push(float64(by.below(cells))), read, emit)
	}
	p.Code = append(p.Code, halt)
	return p
}

// addsBy is an updater that commits, if its fuel lasts: it adds to cells.
func addsBy(by *rule, cells int) api.Program {
	p := program(api.Updates)
	for range 1 + by.below(3) {
		cell := push(float64(by.below(cells)))
		p.Code = append(p.Code, cell, read, push(1), in(api.OpTwo, api.TwoAdd), cell, write)
	}
	p.Code = append(p.Code, halt)
	return p
}

// setupBy is a setup that may be, with at most so many calls a thread.
func setupBy(by *rule, most int) api.Setup {
	s := api.Setup{Config: api.Config{Cells: 1 + by.below(3), Threads: 1 + by.below(8), Fuel: 1 + by.below(40), Writes: 1 + by.below(3)}}
	for range by.below(s.Config.Cells + 1) {
		s.Start = append(s.Start, of(odd[by.below(len(odd))]))
	}
	for range 1 + by.below(6) {
		s.Programs = append(s.Programs, programBy(by, s.Config.Cells))
	}
	for range by.below(3) + s.Config.Threads - 2 {
		var calls []api.Call
		for range by.below(most + 1) {
			args := make([]float64, by.below(9))
			for i := range args {
				args[i] = []float64{float64(by.below(4)), of(odd[by.below(len(odd))])}[by.below(2)]
			}
			calls = append(calls, call(by.below(len(s.Programs)), args...))
		}
		s.Threads = append(s.Threads, calls)
	}
	return s
}

// pair is an engine and its model.
type pair struct {
	e *engine.Engine
	m *model
}

func pairOf(t *testing.T, s api.Setup) pair {
	t.Helper()
	return pair{made(t, s), modelOf(s)}
}

func (p pair) clone() pair { return pair{p.e.Clone(), p.m.clone()} }

func (p pair) wantAlike(t *testing.T, what string) {
	t.Helper()
	wantLook(t, what, p.e, p.m.look())
}
