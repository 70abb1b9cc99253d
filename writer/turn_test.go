package writer_test

import (
	"fmt"
	"slices"
	"testing"

	"beadle/api"
	"beadle/mem"
	"beadle/reader"
	"beadle/writer"
)

// rule is a source of numbers that are the same with each run.
type rule uint64

func (r *rule) below(n int) int {
	*r = *r*6364136223846793005 + 1442695040888963407
	return int(uint64(*r>>33) % uint64(n))
}

// turnBound is how many steps an updater has from its turn on, besides those that found a claim too old.
func turnBound(c api.Config) int { return c.Fuel + c.Threads + 3*c.Writes + api.TurnSlack }

// wantTurn lets an updater whose turn has come go on to its end, with what others do ahead of each step; it tells how many steps there were besides those that found a claim too old.
func wantTurn(t *testing.T, what string, c api.Config, x *writer.Writer, m *mem.Mem, stamp uint64, ahead func(at int)) int {
	t.Helper()
	others, at := 0, 0
	for range 1 << 14 {
		ahead(at)
		old := false
		if x.Phase() == scanning {
			word, _ := m.Peek(3 + at)
			if old = !letsBy(word, stamp); !old {
				at++
			}
		}
		is, e := x.Step(m)
		if e != api.OK || is != (x.Phase() == over) {
			t.Fatalf("%s: Step = %v, %d, Phase %d", what, is, e, x.Phase())
		}
		if !old {
			others++
		}
		if others > turnBound(c) {
			t.Fatalf("%s: %d steps from its turn on, and not over", what, others)
		}
		if is {
			return others
		}
	}
	t.Fatalf("%s: it is held up for ever", what)
	return 0
}

// fullTurn is a program that begins just as many instructions as the fuel lets it, and writes as many cells as it may among them, if it can; then it halts, or else its fuel is used up.
func fullTurn(c api.Config, halts bool) (api.Program, int) {
	p, written := program(api.Updates), 0
	for written < c.Writes && len(p.Code)+4 <= c.Fuel {
		p.Code = append(p.Code, push(1), push(float64(written)), write)
		written++
	}
	for len(p.Code)+2 < c.Fuel {
		p.Code = append(p.Code, push(0), in(api.OpDrop, 0))
	}
	for len(p.Code)+1 < c.Fuel {
		p.Code = append(p.Code, in(api.OpGet, 0))
	}
	p.Code = append(p.Code, halt)
	if !halts {
		p.Code[len(p.Code)-1] = in(api.OpJump, 0)
	}
	return p, written
}

// P15.5: from the step on in which Serving is its ticket, with Fuel, Threads and Writes at their edges, each of them used up, and claims that are too old for a while.
func TestItsTurn(t *testing.T) {
	for _, fuel := range []int{1, 2, 4, 5, 129, 1023, 1024} {
		for _, threads := range []int{1, 2, 7, 8} {
			for _, writes := range []int{1, 2, 31, 32} {
				c := api.Config{Cells: 256, Threads: threads, Fuel: fuel, Writes: writes}
				for _, polls := range []int{0, 1, 40} {
					wantFullTurn(t, c, polls)
				}
			}
		}
	}
}

// wantFullTurn: each claim is too old for so many steps, then it is taken out.
func wantFullTurn(t *testing.T, c api.Config, polls int) {
	t.Helper()
	what := fmt.Sprintf("%+v, %d polls", c, polls)
	p, written := fullTurn(c, true)
	for _, waits := range []int{0, 3} {
		m, x := turnMem(t, c, 9, polls > 0), made(t, c, c.Threads-1, p)
		stepped(t, x, m, 1+waits)
		m.Poke(1, 500)
		looked := 0
		steps := wantTurn(t, what, c, x, m, 9, func(at int) {
			if x.Phase() != scanning {
				return
			}
			if looked++; looked > polls {
				m.Poke(3+at, 0)
				looked = 0
			}
		})
		if want := 2 + c.Fuel + c.Threads + 3*written + 2; steps != want || x.Deed().Number != 10 {
			t.Errorf("%s: %d steps, want %d, %+v", what, steps, want, x.Deed().End)
		}
		if all, want := x.Deed().Steps, 1+waits+steps+polls*c.Threads; all != want {
			t.Errorf("%s: %d steps in all, want %d", what, all, want)
		}
	}
	p, _ = fullTurn(c, false)
	m, x := turnMem(t, c, 9, true), made(t, c, 0, p)
	stepped(t, x, m, 1)
	m.Poke(1, 500)
	if steps := wantTurn(t, what, c, x, m, 9, func(int) {}); steps != 2+c.Fuel+1+1 || x.Deed().End != failed(api.ErrFuel) {
		t.Errorf("%s, without an end: %d steps, %+v", what, steps, x.Deed().End)
	}
}

// turnMem is a memory in which another one is served as yet; with all claims too old, or none.
func turnMem(t *testing.T, c api.Config, stamp uint64, old bool) *mem.Mem {
	t.Helper()
	m := filled(t, placed(t, c).Words)
	m.Poke(0, 500)
	m.Poke(1, 499)
	m.Poke(2, stamp)
	for at := range c.Threads {
		m.Poke(3+at, 0)
		if old {
			m.Poke(3+at, 1+uint64(at)%stamp)
		}
	}
	return m
}

// P15.5: programs of all kinds, with claims of all kinds that others take out in any order, also while it runs: over within the bound, besides the steps that found a claim too old.
func TestItsTurnAtRandom(t *testing.T) {
	for seed := range 3000 {
		by := rule(seed)
		c := api.Config{Cells: 1 + by.below(3), Threads: 1 + by.below(8), Fuel: []int{1, 2, 30, 300}[by.below(4)], Writes: 1 + by.below(2)}
		m, x := turnMem(t, c, 9, false), made(t, c, by.below(c.Threads), programBy(&by, c.Cells))
		for at := range c.Threads {
			m.Poke(3+at, uint64(by.below(13)))
		}
		stepped(t, x, m, 1+by.below(3))
		m.Poke(1, 500)
		wantTurn(t, fmt.Sprint("the program ", seed), c, x, m, 9, func(int) {
			if by.below(8) == 0 {
				m.Poke(3+by.below(c.Threads), 0)
			}
		})
	}
}

// P15.5: as long as a claim is too old it waits, however long that is, and lays nothing.
func TestItWaitsForWhoIsTooOld(t *testing.T) {
	for at := range 8 {
		c := api.Config{Cells: 2, Threads: 8, Fuel: 30, Writes: 2}
		m := turnMem(t, c, 9, false)
		m.Poke(1, 500)
		m.Poke(3+at, 9)
		x := steppedTo(t, made(t, c, at, writesAll([]int{1, 0})), m, scanning)
		words := m.All()
		stepped(t, x, m, 5000)
		if x.Phase() != scanning || !slices.Equal(m.All(), words) {
			t.Errorf("held up by %d: Phase %d", at, x.Phase())
		}
		m.Poke(3+at, 0)
		stepped(t, x, m, 8-at+6+2)
		if x.Phase() != over || x.Deed().Number != 10 {
			t.Errorf("held up by %d for a while: %+v", at, lookAt(x))
		}
	}
}

// P15.6: behind each step which words have changed: none but Next as long as it is not Writing; of one that is not Committed none but Next and Serving.
func TestWhatNobodySees(t *testing.T) {
	met := map[api.End]int{}
	for seed := range 2000 {
		by := rule(seed)
		c := api.Config{Cells: 1 + by.below(3), Threads: 1 + by.below(3), Fuel: 1 + by.below(60), Writes: 1 + by.below(3)}
		p := placed(t, c)
		m, x := turnMem(t, c, uint64(by.below(9)), false), made(t, c, 0, programBy(&by, c.Cells))
		m.Poke(1, 500)
		first, laid := m.All(), map[int]int{}
		for x.Phase() != over {
			was, phase := m.All(), x.Phase()
			wantStepOK(t, x, m)
			for _, at := range changed(was, m.All()) {
				laid[at] = phase
				if !mayLay(p, phase, at) {
					t.Errorf("%d: the word %d has changed in the part %d", seed, at, phase)
				}
			}
		}
		d := x.Deed()
		met[api.End{How: d.End.How, E: d.End.E}]++
		want := slices.Clone(first)
		want[0], want[1] = 501, 501
		if d.End == committed {
			want[2]++
			for _, one := range d.Writes {
				version := p.Cells + 3*one.Cell
				want[version], want[version+1], want[version+2] = want[2], bitsOf(one.X), want[version+1]
			}
		} else if len(laid) != 2 || laid[0] != drawing || laid[1] != passing {
			t.Errorf("%d: %+v has changed %v", seed, d.End, laid)
		}
		wantWords(t, fmt.Sprint(seed, ", at the end"), m, want...)
	}
	for _, end := range []api.End{committed, {How: api.Aborted}, failed(api.ErrStack), failed(api.ErrFuel), failed(api.ErrBadProgram), failed(api.ErrTooManyWrites), failed(api.ErrReadOnlyWrite)} {
		if met[end] < 10 {
			t.Errorf("%+v was met %d times", end, met[end])
		}
	}
}

// changed are the places whose words are other ones.
func changed(was, is []uint64) []int {
	var l []int
	for at := range was {
		if was[at] != is[at] {
			l = append(l, at)
		}
	}
	return l
}

// mayLay is whether a step of that part may change that word.
func mayLay(p api.Plan, phase, at int) bool {
	switch phase {
	case drawing:
		return at == p.Next
	case writing:
		return at >= p.Cells
	case publishing:
		return at == p.Stamp
	case passing:
		return at == p.Serving
	}
	return false
}

// P15.6: a reader that comes in ahead of whichever step of an updater, and stays for whichever number of them, sees the cells as they were, or all as they are then: nothing between. Which of the two, its stamp tells: what was published ahead of its third step.
func TestAReaderBetween(t *testing.T) {
	c := api.Config{Cells: 2, Threads: 2, Fuel: 20, Writes: 2}
	tells := program(api.Reads, push(0), read, emit, push(1), read, emit, halt)
	const whole = 3 + 7 + 2 + 6 + 2
	saw := [2]int{}
	for comes := range whole + 1 {
		for stays := range whole - comes + 1 {
			for first := range 14 {
				m, _ := mem.New(placed(t, c).Words)
				x, r := stepped(t, made(t, c, 0, writesAll([]int{1, 0})), m, comes), reader.New(c, 1, tells, nil)
				reads(r, m, first)
				had := x.Deed().Number
				stepped(t, x, m, stays)
				if first < 3 {
					had = x.Deed().Number
				}
				for r.Phase() != 4 {
					r.Step(m)
				}
				d := r.Deed()
				saw[d.Mark]++
				if want := [][]float64{{0, 0}, {51, 50}}[d.Mark]; !slices.Equal(d.Out, want) || d.Mark != had {
					t.Errorf("behind %d steps, for %d, with %d: the stamp %d, %v, want the stamp %d", comes, stays, first, d.Mark, d.Out, had)
				}
			}
		}
	}
	if saw[0] < 100 || saw[1] < 100 {
		t.Errorf("seen: %v", saw)
	}
}
