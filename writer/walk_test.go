package writer_test

import (
	"fmt"
	"slices"
	"testing"

	"beadle/api"
	"beadle/machine"
	"beadle/mem"
	"beadle/writer"
)

// tale is an updater by the document's table: what it does is reckoned from plain words; its program alone is left to a machine.
type tale struct {
	c                     api.Config
	plan                  api.Plan
	tag                   int
	args                  []uint64
	machine               *machine.Machine
	phase, steps, at      int
	ticket, stamp, number uint64
	had                   []uint64
	stores                [][2]uint64 // of Writing: the places and what they get, in order
}

func taleOf(plan api.Plan, c api.Config, p api.Program, args []float64) *tale {
	var bits []uint64
	for _, x := range args {
		bits = append(bits, fixed(bitsOf(x)))
	}
	return &tale{c: c, plan: plan, tag: p.Tag, args: bits, machine: machine.New(c, p, args), phase: drawing}
}

func (s *tale) clone() *tale {
	other := *s
	other.machine, other.had, other.stores = s.machine.Clone(), slices.Clone(s.had), slices.Clone(s.stores)
	return &other
}

// step does a step over words, and tells how many accesses it had.
func (s *tale) step(words []uint64) int {
	s.steps++
	switch s.phase {
	case drawing:
		s.ticket = words[s.plan.Next]
		words[s.plan.Next]++
		s.phase = waiting
	case waiting:
		if words[s.plan.Serving] == s.ticket {
			s.phase = marking
		}
	case marking:
		s.stamp, s.phase = words[s.plan.Stamp], running
	case running:
		return s.run(words)
	case scanning:
		s.scan(words[s.plan.Census+s.at])
	case writing:
		words[s.stores[0][0]] = s.stores[0][1]
		if s.stores = s.stores[1:]; len(s.stores) == 0 {
			s.phase = publishing
		}
	case publishing:
		s.number = s.stamp + 1
		words[s.plan.Stamp], s.phase = s.number, passing
	case passing:
		words[s.plan.Serving], s.phase = s.ticket+1, over
	}
	return 1
}

func (s *tale) run(words []uint64) int {
	ask := s.machine.Step()
	now := s.plan.Cells + 3*ask.Cell + 1
	switch {
	case ask.Kind == api.AskRead:
		s.machine.Give(of(words[now]))
		return 1
	case ask.Kind == api.AskWrite && ask.First:
		s.had = append(s.had, fixed(words[now]))
		return 1
	case ask.Kind == api.AskEnd && s.machine.End() == committed:
		s.phase = scanning
	case ask.Kind == api.AskEnd:
		s.phase = passing
	}
	return 0
}

func (s *tale) scan(word uint64) {
	if !letsBy(word, s.stamp) {
		return
	}
	if s.at++; s.at < s.c.Threads {
		return
	}
	s.phase = publishing
	for i, one := range s.machine.Writes() {
		version := uint64(s.plan.Cells + 3*one.Cell)
		s.stores = append(s.stores, [2]uint64{version + 2, s.had[i]}, [2]uint64{version, s.stamp + 1}, [2]uint64{version + 1, bitsOf(one.X)})
		s.phase = writing
	}
}

func (s *tale) look() look {
	l := look{phase: s.phase, tag: s.tag, mark: -1, number: int(s.number), steps: s.steps, args: s.args, out: allBits(s.machine.Out()), reads: touches(s.machine.Reads()), writes: touches(s.machine.Writes())}
	if s.phase != drawing {
		l.mark = int(s.ticket)
	}
	if s.phase == over {
		l.end = s.machine.End()
	}
	return l
}

// instrBy is an instruction, reads and writes among them most of all.
func instrBy(by *rule, places, cells int) []api.Instr {
	address := push(float64(by.below(cells)))
	switch k := by.below(24); {
	case k < 5:
		return []api.Instr{address, read, emit}
	case k < 7:
		return []api.Instr{address, read, read}
	case k < 11:
		return []api.Instr{push(float64(by.below(5))), address, write}
	case k < 14:
		return []api.Instr{address, read, push(float64(by.below(3))), in(api.OpTwo, api.TwoAdd), push(float64(by.below(cells))), write}
	case k == 14:
		return []api.Instr{in(api.OpArg, by.below(8)), in(api.OpDup, 0), emit, address, write}
	case k == 15:
		return []api.Instr{address, read, in(api.OpIf, by.below(places))}
	case k == 16:
		return []api.Instr{in(api.OpJump, by.below(places))}
	case k == 17:
		return []api.Instr{in(api.OpCall, by.below(places))}
	case k == 18:
		return []api.Instr{[]api.Instr{halt, in(api.OpRet, 0), in(api.OpAbort, by.below(100)), in(api.OpDrop, 0), push(of(odd[by.below(len(odd))]))}[by.below(5)]}
	case k == 19:
		return []api.Instr{[]api.Instr{push(float64(cells)), push(-1), address}[by.below(3)], read}
	}
	return []api.Instr{push(float64(by.below(4))), in(api.OpDup, 0), in(api.OpTwo, 1+by.below(12)), emit}
}

func programBy(by *rule, cells int) api.Program {
	p := program([]int{api.Updates, api.Updates, api.Updates, api.Reads}[by.below(4)])
	if by.below(40) == 0 {
		p.Tag = 3 + by.below(9)
	}
	for range 1 + by.below(7) {
		p.Code = append(p.Code, instrBy(by, 6, cells)...)
	}
	// So most of them come to a good end, and each of the places 0 to 5 is one of the program's.
	if by.below(5) > 0 {
		p.Code = append(p.Code, halt)
	}
	for len(p.Code) < 6 {
		p.Code = append(p.Code, halt)
	}
	return p
}

// wordBy is a word: a small one mostly, the bits of an address, or one at an edge.
func wordBy(by *rule) uint64 {
	switch by.below(8) {
	case 0:
		return odd[by.below(len(odd))]
	case 1:
		return stamps[by.below(len(stamps))]
	case 2, 3:
		return bitsOf(float64(by.below(4)))
	}
	return uint64(by.below(6))
}

// walker is a walk's memory, the words and the accesses that it should have, and updaters with their tales.
type walker struct {
	c     api.Config
	m     *mem.Mem
	words []uint64
	open  bool
	count int
	short *mem.Mem
	going [4]*writer.Writer
	are   [4]*tale
	met   map[string]int
}

// P15.1 to P15.4, R5, P0.5: updaters and their clones, many at once over few words, which are changed between, with steps that are refused; held against their tales behind each step.
func TestWalks(t *testing.T) {
	met := map[string]int{}
	for seed := range 300 {
		walk(t, rule(seed), met)
		if t.Failed() {
			t.Fatalf("the walk %d", seed)
		}
	}
	for _, what := range []string{"Committed", "Aborted", "ErrStack", "ErrFuel", "ErrBadProgram", "ErrReadOnlyWrite", "ErrTooManyWrites", "waited", "held up", "its own", "refused", "over already",
		"cloned in 1", "cloned in 2", "cloned in 3", "cloned in 4", "cloned in 5", "cloned in 6", "cloned in 7", "cloned in 8", "cloned in 9"} {
		if met[what] < 20 {
			t.Errorf("%s was met %d times", what, met[what])
		}
	}
}

func walk(t *testing.T, by rule, met map[string]int) {
	t.Helper()
	c := api.Config{Cells: 1 + by.below(3), Threads: 1 + by.below(3), Fuel: 1 + by.below(40), Writes: 1 + by.below(2)}
	words := placed(t, c).Words
	w := &walker{c: c, m: filled(t, words+by.below(2)), short: filled(t, words-1), met: met}
	w.words = w.m.All()
	for at := range words {
		w.change(at, wordBy(&by))
	}
	for i := range w.going {
		w.begin(&by, i)
	}
	for range 500 {
		i := by.below(len(w.going))
		switch k := by.below(24); {
		case k == 0:
			w.clone(i, by.below(len(w.going)))
		case k == 1:
			w.refuse(t, i)
		case k < 6:
			w.change(by.below(words), wordBy(&by))
		case w.are[i].phase == waiting && k < 10:
			// Whoever waits comes to its turn by and by.
			w.change(1, w.are[i].ticket)
		case w.are[i].phase == scanning && k < 10:
			w.change(3+w.are[i].at, 0)
		case w.are[i].phase == over && k < 22:
			w.begin(&by, i)
		default:
			w.step(t, i)
		}
		w.look(t)
	}
}

func (w *walker) change(at int, word uint64) {
	w.m.Poke(at, word)
	w.words[at] = word
}

// begin begins an updater, in place of the i-th.
func (w *walker) begin(by *rule, i int) {
	p := programBy(by, w.c.Cells)
	args := make([]float64, by.below(9))
	for n := range args {
		args[n] = of(wordBy(by))
	}
	plan, _ := mem.Place(w.c)
	w.going[i], w.are[i] = writer.New(w.c, by.below(w.c.Threads), p, args), taleOf(plan, w.c, p, args)
}

// clone puts a clone of the i-th in the place of the j-th, which may be the same.
func (w *walker) clone(i, j int) {
	w.going[j], w.are[j] = w.going[i].Clone(), w.are[i].clone()
	w.met[fmt.Sprint("cloned in ", w.are[i].phase)]++
}

func (w *walker) refuse(t *testing.T, i int) {
	t.Helper()
	wantNoStep(t, "too few words", w.going[i], w.short, api.ErrPlace)
	w.met["refused"]++
}

func (w *walker) step(t *testing.T, i int) {
	t.Helper()
	is, fault, s := false, api.ErrState, w.are[i]
	if s.phase != over {
		was, reads := *s, len(s.machine.Reads())
		accesses := s.step(w.words)
		w.count += accesses
		w.open = accesses == 0
		is, fault = s.phase == over, api.OK
		w.note(&was, s, accesses, len(s.machine.Reads())-reads)
	} else {
		w.met["over already"]++
	}
	if got, e := w.going[i].Step(w.m); got != is || e != fault {
		t.Errorf("%+v: %v, %d, want %v, %d", s.look(), got, e, is, fault)
	}
}

// note counts what was met: steps that waited, reads of its own, the updater's end.
func (w *walker) note(was, s *tale, accesses, reads int) {
	switch {
	case was.phase == waiting && s.phase == waiting:
		w.met["waited"]++
	case was.phase == scanning && s.phase == scanning && s.at == was.at:
		w.met["held up"]++
	case reads == 1 && accesses == 0:
		w.met["its own"]++
	case s.phase == over:
		end := s.machine.End()
		names := map[api.Errno]string{api.ErrStack: "ErrStack", api.ErrFuel: "ErrFuel", api.ErrBadProgram: "ErrBadProgram", api.ErrReadOnlyWrite: "ErrReadOnlyWrite", api.ErrTooManyWrites: "ErrTooManyWrites"}
		w.met[[]string{"", "Committed", "Aborted", names[end.E]}[end.How]]++
	}
}

// look holds all that is told against the tales.
func (w *walker) look(t *testing.T) {
	t.Helper()
	wantMem(t, "a walk", w.m, w.words, w.open, w.count)
	for i, one := range w.going {
		wantLook(t, "a walk", one, w.are[i].look())
	}
}
