package reader_test

import (
	"fmt"
	"slices"
	"testing"

	"beadle/api"
	"beadle/cells"
	"beadle/census"
	"beadle/machine"
	"beadle/mem"
	"beadle/reader"
)

// rule is a source of numbers that are the same with each run.
type rule uint64

func (r *rule) below(n int) int {
	*r = *r*6364136223846793005 + 1442695040888963407
	return int(uint64(*r>>33) % uint64(n))
}

// tale is a reader by the document's table: what it does is reckoned from plain words; its program alone is left to a machine.
type tale struct {
	plan         api.Plan
	thread, tag  int
	args         []uint64
	machine      *machine.Machine
	phase, steps int
	claim, stamp uint64
	come         int      // steps of Coming
	cell         int      // that is read
	loads        []uint64 // of the read that is under way, in order
}

func taleOf(plan api.Plan, c api.Config, thread int, p api.Program, args []float64) *tale {
	var bits []uint64
	for _, x := range args {
		bits = append(bits, fixed(bitsOf(x)))
	}
	return &tale{plan: plan, thread: thread, tag: p.Tag, args: bits, machine: machine.New(c, p, args), phase: coming}
}

func (s *tale) clone() *tale {
	other := *s
	other.machine, other.loads = s.machine.Clone(), slices.Clone(s.loads)
	return &other
}

// step does a step over words, and tells how many accesses it had.
func (s *tale) step(words []uint64) int {
	s.steps++
	own := s.plan.Census + s.thread
	switch {
	case s.phase == leaving:
		words[own] = 0
		s.phase = over
	case s.phase == coming && s.come == 1:
		words[own] = s.claim + 1
		s.come++
	case s.phase == coming && s.come == 0:
		s.claim = words[s.plan.Stamp]
		s.come++
	case s.phase == coming:
		s.stamp = words[s.plan.Stamp]
		s.phase = running
	default:
		return s.run(words)
	}
	return 1
}

func (s *tale) run(words []uint64) int {
	if len(s.loads) == 0 {
		ask := s.machine.Step()
		if ask.Kind == api.AskEnd {
			s.phase = leaving
		}
		if ask.Kind != api.AskRead {
			return 0
		}
		s.cell = ask.Cell
	}
	version, now, was := s.plan.Cells+3*s.cell, s.plan.Cells+3*s.cell+1, s.plan.Cells+3*s.cell+2
	switch n := len(s.loads); {
	case n == 0 || n == 2:
		s.loads = append(s.loads, words[version])
		if n == 2 && s.loads[0] == s.loads[2] {
			s.give(s.loads[1])
		}
	case n == 3 || s.loads[0] > s.stamp:
		s.give(words[was])
	default:
		s.loads = append(s.loads, words[now])
	}
	return 1
}

func (s *tale) give(bits uint64) {
	s.machine.Give(of(bits))
	s.loads = nil
}

func (s *tale) look() look {
	l := look{phase: s.phase, tag: s.tag, mark: -1, steps: s.steps, args: s.args, out: allBits(s.machine.Out()), reads: touches(s.machine.Reads()), writes: touches(s.machine.Writes())}
	if s.phase != coming {
		l.mark = int(s.stamp)
	}
	if s.phase == over {
		l.end = s.machine.End()
	}
	return l
}

// instrBy is an instruction, reads among them most of all.
func instrBy(by *rule, places, cells int) []api.Instr {
	address := push(float64(by.below(cells)))
	switch k := by.below(24); {
	case k < 10:
		return []api.Instr{address, read, emit}
	case k < 12:
		return []api.Instr{address, read, read}
	case k < 14:
		return []api.Instr{push(float64(by.below(5))), address, write, push(7), push(float64(by.below(cells))), write}
	case k == 14:
		return []api.Instr{in(api.OpArg, by.below(8)), emit}
	case k == 15:
		return []api.Instr{address, read, in(api.OpIf, by.below(places))}
	case k == 16:
		return []api.Instr{in(api.OpJump, by.below(places))}
	case k == 17:
		return []api.Instr{in(api.OpCall, by.below(places))}
	case k == 18:
		return []api.Instr{[]api.Instr{halt, in(api.OpRet, 0), in(api.OpAbort, by.below(100)), in(api.OpDrop, 0), push(of(odd[by.below(len(odd))]))}[by.below(5)]}
	case k == 19:
		return []api.Instr{push(float64(cells)), read}
	}
	return []api.Instr{push(float64(by.below(4))), in(api.OpDup, 0), in(api.OpTwo, 1+by.below(12)), emit}
}

func programBy(by *rule, cells int) api.Program {
	p := program([]int{api.Reads, api.Updates}[by.below(2)])
	if by.below(40) == 0 {
		p.Tag = 3 + by.below(9)
	}
	for range 1 + by.below(9) {
		p.Code = append(p.Code, instrBy(by, 6, cells)...)
	}
	// So each of the places 0 to 5 is one of the program's.
	for len(p.Code) < 6 {
		p.Code = append(p.Code, halt)
	}
	return p
}

// wordBy is a word: a small stamp mostly, the bits of an address, or one at an edge.
func wordBy(by *rule) uint64 {
	switch by.below(8) {
	case 0:
		return odd[by.below(len(odd))]
	case 1:
		return stamps[by.below(len(stamps))]
	case 2, 3:
		return bitsOf(float64(by.below(4)))
	}
	return uint64(by.below(6))
}

// walker is a walk's memory, the words and the accesses that it should have, and readers with their tales.
type walker struct {
	c     api.Config
	m     *mem.Mem
	words []uint64
	open  bool
	count int
	short *mem.Mem
	going [4]*reader.Reader
	are   [4]*tale
	met   map[string]int
}

// P14.1 to P14.4, R5, P0.5: readers of all threads and their clones, many at once over few words, which are changed between, with steps that are refused; held against their tales behind each step.
func TestWalks(t *testing.T) {
	met := map[string]int{}
	for seed := range 200 {
		walk(t, rule(seed), met)
		if t.Failed() {
			t.Fatalf("the walk %d", seed)
		}
	}
	for _, what := range []string{"Committed", "Aborted", "ErrStack", "ErrFuel", "ErrBadProgram", "ErrReadOnlyWrite", "ErrTooManyWrites", "read in 2", "read in 3", "read in 4", "its own", "refused", "over already", "cloned", "cloned in a read"} {
		if met[what] < 50 {
			t.Errorf("%s was met %d times", what, met[what])
		}
	}
}

func walk(t *testing.T, by rule, met map[string]int) {
	t.Helper()
	c := api.Config{Cells: 1 + by.below(3), Threads: 1 + by.below(3), Fuel: 1 + by.below(40), Writes: 1 + by.below(2)}
	words := placed(t, c).Words
	w := &walker{c: c, m: filled(t, words+by.below(2)), short: filled(t, words-1), met: met}
	w.words = w.m.All()
	for range words {
		w.change(by.below(words), wordBy(&by))
	}
	for i := range w.going {
		w.begin(&by, i)
	}
	for range 400 {
		i := by.below(len(w.going))
		switch k := by.below(20); {
		case k == 0:
			w.clone(i, by.below(len(w.going)))
		case k == 1:
			w.refuse(t, i)
		case k < 7:
			w.change(by.below(words), wordBy(&by))
		case w.are[i].phase == over && k < 18:
			w.begin(&by, i)
		default:
			w.step(t, i)
		}
		w.look(t)
	}
}

func (w *walker) change(at int, word uint64) {
	w.m.Poke(at, word)
	w.words[at] = word
}

// begin begins a reader, in place of the i-th.
func (w *walker) begin(by *rule, i int) {
	thread, p := by.below(w.c.Threads), programBy(by, w.c.Cells)
	args := make([]float64, by.below(9))
	for n := range args {
		args[n] = of(wordBy(by))
	}
	plan, _ := mem.Place(w.c)
	w.going[i], w.are[i] = reader.New(w.c, thread, p, args), taleOf(plan, w.c, thread, p, args)
}

// clone puts a clone of the i-th in the place of the j-th, which may be the same.
func (w *walker) clone(i, j int) {
	w.going[j], w.are[j] = w.going[i].Clone(), w.are[i].clone()
	w.met["cloned"]++
	if len(w.are[i].loads) > 0 {
		w.met["cloned in a read"]++
	}
}

func (w *walker) refuse(t *testing.T, i int) {
	t.Helper()
	wantNoStep(t, "too few words", w.going[i], w.short, api.ErrPlace)
	w.met["refused"]++
}

func (w *walker) step(t *testing.T, i int) {
	t.Helper()
	is, fault, s := false, api.ErrState, w.are[i]
	if s.phase != over {
		loads, reads := len(s.loads), len(s.machine.Reads())
		accesses := s.step(w.words)
		w.count += accesses
		w.open = accesses == 0
		is, fault = s.phase == over, api.OK
		w.note(s, accesses, loads, len(s.machine.Reads())-reads)
	} else {
		w.met["over already"]++
	}
	if got, e := w.going[i].Step(w.m); got != is || e != fault {
		t.Errorf("%+v: %v, %d, want %v, %d", s.look(), got, e, is, fault)
	}
}

// note counts what was met: a read's end, by its steps, and the reader's.
func (w *walker) note(s *tale, accesses, loads, reads int) {
	if reads == 1 && accesses == 0 {
		w.met["its own"]++
	}
	if reads == 1 && accesses == 1 {
		w.met[fmt.Sprint("read in ", loads+1)]++
	}
	if s.phase == over {
		end := s.machine.End()
		names := map[api.Errno]string{api.ErrStack: "ErrStack", api.ErrFuel: "ErrFuel", api.ErrBadProgram: "ErrBadProgram", api.ErrReadOnlyWrite: "ErrReadOnlyWrite", api.ErrTooManyWrites: "ErrTooManyWrites"}
		w.met[[]string{"", "Committed", "Aborted", names[end.E]}[end.How]]++
	}
}

// look holds all that is told against the tales.
func (w *walker) look(t *testing.T) {
	t.Helper()
	wantMem(t, "a walk", w.m, w.words, w.open, w.count)
	for i, one := range w.going {
		wantLook(t, "a walk", one, w.are[i].look())
	}
}

// wantOver steps it till it is over, over words that are changed ahead of each step: within its bound, and no step is refused. It tells how many there were.
func wantOver(t *testing.T, what string, c api.Config, x *reader.Reader, m *mem.Mem, change func(step int)) int {
	t.Helper()
	for i := range c.Fuel*api.ReadCost + api.ReaderSlack {
		change(i)
		count := m.Count()
		is, e := x.Step(m)
		if e != api.OK || m.Count() > count+1 {
			t.Fatalf("%s, step %d: %d, %d accesses", what, i, e, m.Count()-count)
		}
		if is != (x.Phase() == over) {
			t.Fatalf("%s, step %d: %v, Phase %d", what, i, is, x.Phase())
		}
		if is {
			return i + 1
		}
	}
	t.Fatalf("%s: it is not over", what)
	return 0
}

// reading is a program that reads as often as it can: what it has read is the next address.
func reading(tag int) api.Program {
	return program(tag, append([]api.Instr{push(0)}, slices.Repeat([]api.Instr{read}, 1023)...)...)
}

// P14.5: as many reads as the fuel lets it do, each of them torn: no reader has more steps, and it is within the bound.
func TestEachReadTorn(t *testing.T) {
	for _, fuel := range []int{1, 2, 3, 4, 5, 20, 1023, 1024} {
		c := api.Config{Cells: 1, Threads: 1, Fuel: fuel, Writes: 1}
		for _, tag := range []int{api.Reads, api.Updates} {
			x, m := made(t, c, 0, reading(tag)), holding(t, 0, 0, 1<<40, 0, 0, 0, bitsOf(minus0))
			steps := wantOver(t, fmt.Sprint("fuel ", fuel), c, x, m, func(step int) { m.Poke(4, uint64(step)) })
			if want := 3 + 1 + 4*(fuel-1) + 1 + 1; steps != want {
				t.Errorf("fuel %d: %d steps, want %d", fuel, steps, want)
			}
			d := x.Deed()
			if d.End != failed(api.ErrFuel) || len(d.Reads) != fuel-1 || d.Steps != steps {
				t.Errorf("fuel %d: %+v, %d reads, %d steps", fuel, d.End, len(d.Reads), d.Steps)
			}
			if slices.ContainsFunc(touches(d.Reads), func(r touch) bool { return r != touch{0, bitsOf(minus0)} }) {
				t.Errorf("fuel %d: it has not read what the cell had", fuel)
			}
		}
	}
}

// P14.5: programs that read, loop and fail, with each fuel at its edges, over words that are changed at random ahead of each step.
func TestWaitsForNobody(t *testing.T) {
	endless := map[string]api.Program{
		"reading":       reading(api.Reads),
		"a loop":        program(api.Reads, in(api.OpJump, 0)),
		"a loop, reads": program(api.Reads, push(0), read, in(api.OpDrop, 0), in(api.OpJump, 0)),
		"calls":         program(api.Reads, in(api.OpCall, 0)),
		"pushes":        program(api.Reads, push(0), in(api.OpJump, 0)),
		"by the number": program(api.Reads, push(0), read, in(api.OpIf, 0), push(0), read, in(api.OpUnless, 0), halt),
		"writes":        program(api.Updates, push(0), read, push(0), write, in(api.OpJump, 0)),
		"emits":         program(api.Reads, push(0), read, emit, in(api.OpJump, 0)),
		"none":          {},
	}
	for what, p := range endless {
		for _, fuel := range []int{1, 2, 3, 1023, 1024} {
			for seed := range 6 {
				by, c := rule(seed), api.Config{Cells: 1, Threads: 2, Fuel: fuel, Writes: 1}
				x, m := made(t, c, seed%2, p), filled(t, 8)
				wantOver(t, fmt.Sprint(what, ", fuel ", fuel), c, x, m, func(int) { m.Poke(by.below(8), wordBy(&by)) })
			}
		}
	}
	for seed := range 3000 {
		by := rule(seed)
		c := api.Config{Cells: 1 + by.below(3), Threads: 1 + by.below(8), Fuel: []int{1, 2, 30, 300}[by.below(4)], Writes: 1}
		p := programBy(&by, c.Cells)
		words := placed(t, c).Words
		x, m := made(t, c, by.below(c.Threads), p), filled(t, words)
		wantOver(t, fmt.Sprint("the program ", seed), c, x, m, func(int) {
			for range by.below(4) {
				m.Poke(by.below(words), wordBy(&by))
			}
		})
	}
}

// updater writes the same number, its stamp, into all cells, again and again, by the steps of the document.
type updater struct {
	c       api.Config
	plan    api.Plan
	stamp   uint64
	scan    *census.Scan
	writing *cells.Writing
	cell    int
}

func (u *updater) step(m *mem.Mem) {
	m.Open()
	switch {
	case u.scan == nil:
		u.stamp, _ = census.Stamp(m, u.plan)
		u.scan, u.cell = census.Look(u.plan, u.c.Threads, u.stamp), -1
	case u.cell < 0:
		if done, _ := u.scan.Step(m); done {
			u.cell = 0
		}
	case u.cell == u.c.Cells:
		census.Publish(m, u.plan, u.stamp+1)
		u.scan = nil
	default:
		u.write(m)
	}
}

func (u *updater) write(m *mem.Mem) {
	if u.writing == nil {
		u.writing = cells.Write(u.plan, u.cell, u.stamp+1, float64(u.stamp), float64(u.stamp+1))
	}
	if done, _ := u.writing.Step(m); done {
		u.writing = nil
		u.cell++
	}
}

// P0.1, P0.3: beside an updater that goes on, in long orders of steps, each reader sees all cells as they were at the moment of its stamp; an updater that never steps again holds nobody up.
func TestOneMoment(t *testing.T) {
	readsAll := program(api.Reads, push(0), read, emit, push(1), read, emit, push(0), read, emit, push(2), read, emit, halt)
	marks, steps := map[int]int{}, map[int]int{}
	for seed := range 200 {
		by, c := rule(seed), api.Config{Cells: 3, Threads: 4, Fuel: 20, Writes: 3}
		p := placed(t, c)
		m, _ := mem.New(p.Words)
		u, readers := &updater{c: c, plan: p}, make([]*reader.Reader, c.Threads)
		stands := by.below(2000)
		for i := range 2000 {
			thread := by.below(c.Threads + 3)
			if thread >= c.Threads {
				if i < stands {
					u.step(m)
				}
				continue
			}
			if readers[thread] == nil {
				readers[thread] = made(t, c, thread, readsAll)
			}
			x := readers[thread]
			if is, _ := x.Step(m); !is {
				continue
			}
			d := x.Deed()
			marks[d.Mark]++
			steps[d.Steps]++
			if want := slices.Repeat([]float64{float64(d.Mark)}, 4); !slices.Equal(d.Out, want) || d.End != committed {
				t.Fatalf("the order %d: the stamp %d, %v, %+v", seed, d.Mark, d.Out, d.End)
			}
			readers[thread] = nil
		}
	}
	if len(marks) < 10 || len(steps) < 6 {
		t.Errorf("stamps %v, steps %v", marks, steps)
	}
}
