package bounds_test

import (
	"fmt"
	"math"
	"slices"
	"testing"

	"beadle/api"
	"beadle/bounds"
	"beadle/engine"
)

func in(op, n int) api.Instr { return api.Instr{Op: op, N: n} }

func push(x float64) api.Instr { return api.Instr{Op: api.OpPush, X: x} }

var (
	read  = in(api.OpRead, 0)
	write = in(api.OpWrite, 0)
	emit  = in(api.OpEmit, 0)
	drop  = in(api.OpDrop, 0)
	add   = in(api.OpTwo, api.TwoAdd)
	halt  = in(api.OpHalt, 0)
)

func program(tag int, code ...api.Instr) api.Program { return api.Program{Tag: tag, Code: code} }

// reads reads so many times, or as long as its fuel lasts: what a cell holds says which one is next.
func reads(times int) api.Program {
	return program(api.Reads, append([]api.Instr{push(0)}, slices.Repeat([]api.Instr{read}, times)...)...)
}

// loops reads as long as its fuel lasts, turns writes so long: both fail then. sets writes +0 into cell 0, adds adds 1 to the last cell of so many.
func loops() api.Program { return program(api.Reads, push(0), read, in(api.OpJump, 1)) }

func turns() api.Program {
	return program(api.Updates, push(0), read, drop, push(0), push(0), write, in(api.OpJump, 0))
}

func sets() api.Program { return program(api.Updates, push(0), push(0), write, halt) }

func adds(cells int) api.Program {
	last := push(float64(cells - 1))
	return program(api.Updates, last, read, push(1), add, last, write, halt)
}

func made(t *testing.T, s api.Setup) *engine.Engine {
	t.Helper()
	e, fault := engine.New(s)
	if fault != api.OK {
		t.Fatalf("New of %+v: %d", s, fault)
	}
	return e
}

// wantNobodyLate: Late finds none of the engine's deeds, and no reader has more Steps than it may, over or not.
func wantNobodyLate(t *testing.T, what string, c api.Config, e *engine.Engine) {
	t.Helper()
	l := e.Deeds()
	wantLate(t, what, c, l, -1)
	bound, _ := bounds.Reader(c)
	for _, d := range l {
		if d.Tag != api.Updates && d.Steps > bound {
			t.Errorf("%s: a reader with more than %d Steps: %+v", what, bound, d)
		}
	}
	if t.Failed() {
		t.Fatalf("%s, behind %d steps of %+v: %+v", what, e.Steps(), c, l)
	}
}

// instrsBy is some instructions that belong together, in a program of so many places at least.
func instrsBy(by *rule, places, cells int) []api.Instr {
	address := push(float64(by.below(cells)))
	switch k := by.below(20); {
	case k < 6:
		return []api.Instr{address, read, emit}
	case k < 9:
		return []api.Instr{push(float64(by.below(cells))), address, write}
	case k < 13:
		return []api.Instr{address, read, push(float64(by.below(3))), add, push(float64(by.below(cells))), write}
	case k == 13:
		return []api.Instr{address, read, in(api.OpIf, by.below(places))}
	case k == 14:
		return []api.Instr{in([]int{api.OpJump, api.OpCall}[by.below(2)], by.below(places))}
	case k == 15:
		return []api.Instr{[]api.Instr{push(float64(cells)), push(-1), push(math.NaN())}[by.below(3)], read}
	case k == 16:
		return []api.Instr{[]api.Instr{halt, in(api.OpRet, 0), in(api.OpAbort, by.below(100)), drop}[by.below(4)]}
	}
	return []api.Instr{address, read, read, read, drop}
}

// programBy is a program of either tag, now and then of one that is none, or of which the machine takes nothing; each of the places 0 to 5 is one of the program's.
func programBy(by *rule, cells int) api.Program {
	switch by.below(16) {
	case 0, 1, 2:
		return reads(by.below(50))
	case 3, 4:
		return sets()
	case 5:
		return loops()
	case 6:
		return turns()
	case 7:
		return adds(cells)
	case 8:
		return program([]int{api.Reads, api.Updates, 0}[by.below(3)], in(99, 0))
	}
	p := program([]int{api.Updates, api.Updates, api.Reads, by.below(9) * 3}[by.below(4)])
	for range 1 + by.below(6) {
		p.Code = append(p.Code, instrsBy(by, 6, cells)...)
	}
	for len(p.Code) < 6 || by.below(4) > 0 {
		p.Code = append(p.Code, halt)
	}
	return p
}

// setupBy is a setup that may be, with at most so many calls a thread.
func setupBy(by *rule, most int) api.Setup {
	s := api.Setup{Config: api.Config{Cells: 1 + by.below(4), Threads: 1 + by.below(8), Fuel: 1 + by.below(40), Writes: 1 + by.below(3)}}
	for range by.below(s.Config.Cells + 1) {
		s.Start = append(s.Start, float64(by.below(s.Config.Cells)))
	}
	for range 1 + by.below(6) {
		s.Programs = append(s.Programs, programBy(by, s.Config.Cells))
	}
	for range by.below(3) + s.Config.Threads - 2 {
		var calls []api.Call
		for range by.below(most + 1) {
			calls = append(calls, api.Call{Program: by.below(len(s.Programs)), Args: make([]float64, by.below(9))})
		}
		s.Threads = append(s.Threads, calls)
	}
	return s
}

// nobody is who is left alone where all go on.
const nobody = -1

// pieceBy is a piece of a script, of one kind: any threads, a stretch of one, rounds. One thread may be left alone in it.
func pieceBy(by *rule, threads, alone int) []int {
	piece, one := make([]int, 1+by.below(60)), by.below(threads)
	kind := by.below(4)
	for i := range piece {
		switch kind {
		case 0:
			piece[i] = by.below(threads)
		case 1:
			piece[i] = one
		default:
			piece[i] = (one + i) % threads
		}
		if piece[i] == alone {
			piece[i] = (alone + 1) % threads
		}
	}
	return piece
}

// underWay is the deeds of readers that are not over.
func underWay(l []api.Deed) []api.Deed {
	return slices.DeleteFunc(l, func(d api.Deed) bool { return d.Tag == api.Updates || d.Ended > 0 })
}

// course is an engine that is taken through a script by pieces, now and then with a reader that is abandoned for some of them.
type course struct {
	by    *rule
	s     api.Setup
	e     *engine.Engine
	left  api.Deed // the reader that is abandoned
	alone int      // its thread
	more  int      // for how many pieces it is
	met   map[string]int
}

// next runs a piece.
func (c *course) next() {
	if c.more == 0 {
		c.goesOn()
	}
	if l := underWay(c.e.Deeds()); c.alone == nobody && len(l) > 0 && c.s.Config.Threads > 1 && c.by.below(6) == 0 {
		c.left = l[c.by.below(len(l))]
		c.alone, c.more = c.left.Thread, 1+c.by.below(12)
	}
	c.e.Run(pieceBy(c.by, c.s.Config.Threads, c.alone))
	c.more--
}

// goesOn ends an abandonment: meanwhile the reader has done nothing.
func (c *course) goesOn() {
	if c.alone == nobody {
		return
	}
	c.alone = nobody
	c.met["a reader that was abandoned"]++
	for _, d := range c.e.Deeds() {
		if d.Thread == c.left.Thread && d.No == c.left.No && d.Steps != c.left.Steps {
			c.met["a reader that was stepped all the same"]++
		}
		if d.Tag == api.Updates && d.Mark >= 0 && d.Ended == 0 {
			c.met["an updater that is held up, or waits"]++
		}
	}
}

// note counts how near to their bounds the deeds have come.
func (c *course) note() {
	config := c.s.Config
	for _, d := range c.e.Deeds() {
		switch {
		case d.Tag != api.Updates && d.Ended == 0:
			c.met["a reader that is not over"]++
		case d.Tag != api.Updates && config.Fuel > 9 && d.Steps > 3*config.Fuel:
			c.met["a reader beyond three steps an instruction"]++
		case d.Tag == api.Updates && d.Mark >= 0 && d.To-d.From > (d.Ahead+1)*(writerOf(config)-readerOf(config)):
			c.met["an updater that had to wait for a reader"]++
		case d.Tag == api.Updates && d.To-d.From > writerOf(config):
			c.met["an updater beyond one turn"]++
		}
	}
}

// P18.3: engines of many setups, with many threads in many orders of steps, behind each piece of a script, and of their clones, which go other ways.
func TestEngines(t *testing.T) {
	met := map[string]int{}
	for seed := range 1500 {
		by := rule(seed)
		c := &course{by: &by, s: setupBy(&by, 10), alone: nobody, met: met}
		c.e = made(t, c.s)
		what := fmt.Sprint("the engine ", seed)
		wantNobodyLate(t, what, c.s.Config, c.e)
		for i := 0; i < 80 && !c.e.Over(); i++ {
			c.next()
			wantNobodyLate(t, what, c.s.Config, c.e)
			c.note()
			if by.below(10) == 0 {
				other := c.e.Clone()
				other.Run(pieceBy(&by, c.s.Config.Threads, nobody))
				wantNobodyLate(t, what+", a clone", c.s.Config, other)
			}
		}
		finish(t, what, c.s.Config, c.e)
		c.note()
	}
	for _, want := range []string{"a reader that was abandoned", "an updater that is held up, or waits", "a reader that is not over", "a reader beyond three steps an instruction", "an updater that had to wait for a reader", "an updater beyond one turn"} {
		if met[want] < 40 {
			t.Errorf("%s: met %d times", want, met[want])
		}
	}
	if n := met["a reader that was stepped all the same"]; n > 0 {
		t.Errorf("%d readers were stepped while they were abandoned", n)
	}
}

// finish takes an engine to its end by rounds.
func finish(t *testing.T, what string, c api.Config, e *engine.Engine) {
	t.Helper()
	round := make([]int, 20*c.Threads)
	for i := range round {
		round[i] = i
	}
	for i := 0; !e.Over(); i++ {
		if i > 100_000 {
			t.Fatalf("%s: not over: %+v", what, e.Deeds())
		}
		e.Run(round)
		wantNobodyLate(t, what, c, e)
	}
}

// P18.3: what is refused, or does nothing, makes nobody late.
func TestWhatIsRefused(t *testing.T) {
	s := api.Setup{Config: chapters(), Programs: []api.Program{loops(), sets()}, Threads: [][]api.Call{{{Program: 1}, {Program: 0}}, {{Program: 0}}}}
	e := made(t, s)
	for i := 0; !e.Over(); i++ {
		e.Step(i % 2)
		e.Step(-1)
		e.Step(2)
		e.Run(make([]int, api.MaxSteps+1))
		wantNobodyLate(t, "refused", s.Config, e)
	}
	e.Run(make([]int, api.MaxSteps))
	wantNobodyLate(t, "over", s.Config, e)
}

// P18.3: behind each single step of few threads, in many orders.
func TestStepByStep(t *testing.T) {
	s := api.Setup{
		Config:   api.Config{Cells: 2, Threads: 3, Fuel: 9, Writes: 1},
		Programs: []api.Program{adds(2), reads(9), turns()},
		Threads:  [][]api.Call{{{Program: 0}, {Program: 2}, {Program: 0}}, {{Program: 1}, {Program: 1}, {Program: 0}}, {{Program: 0}, {Program: 1}, {Program: 0}}},
	}
	for seed := range 150 {
		by := rule(seed)
		e := made(t, s)
		for i := 0; !e.Over(); i++ {
			if i > 10_000 {
				t.Fatalf("not over: %+v", e.Deeds())
			}
			thread := by.below(3)
			for range 1 + by.below(2)*by.below(30) {
				e.Step(thread)
				wantNobodyLate(t, fmt.Sprint("step by step ", seed), s.Config, e)
			}
		}
	}
}

// chain is a reader that goes through the cells, each of which holds the number of the next one, and an updater that writes them anew, as they were.
func chain(cells int) api.Setup {
	s := api.Setup{
		Config:   api.Config{Cells: cells, Threads: 2, Fuel: 3*cells + 1, Writes: cells},
		Programs: []api.Program{reads(3 * cells), program(api.Updates)},
		Threads:  [][]api.Call{{{Program: 0}}, {{Program: 1}}},
	}
	for cell := range cells {
		next := float64((cell + 1) % cells)
		s.Start = append(s.Start, next)
		s.Programs[1].Code = append(s.Programs[1].Code, push(next), push(float64(cell)), write)
	}
	s.Programs[1].Code = append(s.Programs[1].Code, halt)
	return s
}

// P18.3: the most reads that can be torn: an updater stores into each cell just behind the reader's first look at its version. Then each read of it takes four steps, and the bound is all but reached as long as it lasts.
func TestTornReads(t *testing.T) {
	for _, cells := range []int{1, 2, 7, 32} {
		s, what := chain(cells), fmt.Sprint("torn, of ", cells)
		e := made(t, s)
		e.Run([]int{0, 0, 0, 0})
		// Three steps ahead of its program, that, the scan of two threads.
		e.Run(slices.Repeat([]int{1}, 3+3*cells+1+2))
		for range cells {
			e.Run([]int{0, 1, 1, 1, 0, 0, 0})
			wantNobodyLate(t, what, s.Config, e)
		}
		d := e.Deeds()[0]
		if d.Steps != 4+4*cells || len(d.Reads) != cells {
			t.Errorf("%s: %d Steps, %d reads", what, d.Steps, len(d.Reads))
		}
		finish(t, what, s.Config, e)
		// The other reads find a newer version: two steps each; then there is no fuel, or no instruction, and it leaves.
		if d = e.Deeds()[0]; d.Steps != 4+4*cells+4*cells+2 {
			t.Errorf("%s: %d Steps at last: %+v", what, d.Steps, d)
		}
	}
}

// P18.3: updaters, all of which have drawn, and readers that use all of their fuel for reads of three steps, one behind the other: each of the updaters finds readers that have come in ahead of its stamp, and waits for them nearly as long as they take. So without a reader's time in the bound, or without those ahead, it would be late.
func TestTurnsBehindReaders(t *testing.T) {
	s := api.Setup{Config: api.Config{Cells: 2, Threads: 8, Fuel: 60, Writes: 1}, Programs: []api.Program{reads(60), adds(2)}}
	for range 4 {
		s.Threads = append(s.Threads, []api.Call{{Program: 1}})
	}
	for range 4 {
		s.Threads = append(s.Threads, slices.Repeat([]api.Call{{Program: 0}}, 8))
	}
	e := made(t, s)
	e.Run([]int{0, 1, 2, 3})
	for i := 0; !e.Over(); i++ {
		if i > 100_000 {
			t.Fatalf("not over: %+v", e.Deeds())
		}
		e.Step(i % 8)
		wantNobodyLate(t, "behind readers", s.Config, e)
	}
	for ahead, d := range e.Deeds()[:4] {
		turn, rounds := writerOf(s.Config), d.To-d.From
		if d.Ahead != ahead || ahead > 0 && rounds < (ahead+1)*(turn-readerOf(s.Config)) || ahead > 1 && rounds < turn {
			t.Errorf("it had not to wait: %+v", d)
		}
	}
}

// P18.3: a reader that came in ahead of an updater's stamp is abandoned, for as many steps as a script has: no round is over meanwhile, so the updater behind it is not late; nor is anybody when it goes on.
func TestAbandonedReader(t *testing.T) {
	s := api.Setup{
		Config:   api.Config{Cells: 1, Threads: 4, Fuel: 20, Writes: 1},
		Programs: []api.Program{reads(20), sets()},
		Threads:  [][]api.Call{{{Program: 0}}, {{Program: 1}, {Program: 1}}, {{Program: 1}}, {{Program: 0}, {Program: 0}}},
	}
	for steps := 1; steps <= 30; steps++ {
		e, what := made(t, s), fmt.Sprint("abandoned behind ", steps, " steps")
		e.Run(make([]int, steps))
		for range 20 {
			e.Run(slices.Repeat([]int{1, 2, 3}, 50))
			wantNobodyLate(t, what, s.Config, e)
		}
		if d := e.Deeds()[0]; d.Steps != steps || d.Ended != 0 || e.Rounds() > 1 {
			t.Errorf("%s: %d rounds: %+v", what, e.Rounds(), d)
		}
		finish(t, what, s.Config, e)
	}
}

// P18.3: as many threads and calls as may be, with as much fuel as may be.
func TestAllThreadsAndTurns(t *testing.T) {
	s := api.Setup{Config: api.Config{Cells: 256, Threads: 8, Fuel: 1024, Writes: 32}, Programs: []api.Program{reads(1023), turns(), sets()}}
	for thread := range 8 {
		calls := slices.Repeat([]api.Call{{Program: 2}, {Program: 0}, {Program: 2}, {Program: 1}}, 16)
		s.Threads = append(s.Threads, append(calls[thread%4:], calls[:thread%4]...))
	}
	by := rule(5)
	e := made(t, s)
	for range 40 {
		e.Run(slices.Repeat(pieceBy(&by, 8, by.below(8)), 500))
		wantNobodyLate(t, "all", s.Config, e)
	}
	round := slices.Repeat([]int{0, 1, 2, 3, 4, 5, 6, 7}, 5000)
	for i := 0; !e.Over(); i++ {
		if i > 1000 {
			t.Fatalf("not over: %+v", e.Deeds())
		}
		e.Run(round)
		wantNobodyLate(t, "all", s.Config, e)
	}
	if len(e.Deeds()) != 512 {
		t.Errorf("%d deeds", len(e.Deeds()))
	}
}
