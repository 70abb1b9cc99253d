package history_test

import (
	"fmt"
	"slices"
	"testing"

	"beadle/api"
	"beadle/engine"
	"beadle/history"
)

// instrsBy is some instructions that belong together, in a program of so many places at least.
func instrsBy(by *rule, places, cells int) []api.Instr {
	address := push(float64(by.below(cells)))
	switch k := by.below(22); {
	case k < 7:
		return []api.Instr{address, read, emit}
	case k < 10:
		return []api.Instr{push(of(odd[by.below(len(odd))])), address, write}
	case k < 14:
		return []api.Instr{address, read, push(float64(by.below(3))), add, push(float64(by.below(cells))), write}
	case k == 14:
		return []api.Instr{in(api.OpArg, by.below(8)), in(api.OpDup, 0), emit, address, write}
	case k == 15:
		return []api.Instr{address, read, in(api.OpIf, by.below(places))}
	case k == 16:
		return []api.Instr{in([]int{api.OpJump, api.OpCall}[by.below(2)], by.below(places))}
	case k == 17:
		return []api.Instr{[]api.Instr{push(float64(cells)), push(-1), address}[by.below(3)], read}
	case k == 18:
		return []api.Instr{[]api.Instr{halt, in(api.OpRet, 0), in(api.OpAbort, by.below(100)), in(api.OpDrop, 0)}[by.below(4)]}
	}
	return []api.Instr{address, read, push(1), add, address, write}
}

// programBy is a program of either tag, now and then of one that is none; each of the places 0 to 5 is one of the program's.
func programBy(by *rule, cells int) api.Program {
	p := program([]int{api.Updates, api.Updates, api.Reads}[by.below(3)])
	if by.below(25) == 0 {
		p.Tag = by.below(9) * 3
	}
	for range 1 + by.below(6) {
		p.Code = append(p.Code, instrsBy(by, 6, cells)...)
	}
	if by.below(4) == 0 {
		p.Code = append(p.Code, in(api.OpAbort, by.below(100)))
	}
	for len(p.Code) < 6 || by.below(5) > 0 {
		p.Code = append(p.Code, halt)
	}
	return p
}

// setupBy is a setup that may be, with at most so many calls a thread.
func setupBy(by *rule, most int) api.Setup {
	s := api.Setup{Config: api.Config{Cells: 1 + by.below(4), Threads: 1 + by.below(8), Fuel: 1 + by.below(50), Writes: 1 + by.below(3)}}
	for range by.below(s.Config.Cells + 1) {
		s.Start = append(s.Start, of(odd[by.below(len(odd))]))
	}
	for range 1 + by.below(6) {
		s.Programs = append(s.Programs, programBy(by, s.Config.Cells))
	}
	for range by.below(s.Config.Threads + 1) {
		var calls []api.Call
		for range by.below(most + 1) {
			args := make([]float64, by.below(9))
			for i := range args {
				args[i] = of(odd[by.below(len(odd))])
			}
			calls = append(calls, call(by.below(len(s.Programs)), args...))
		}
		s.Threads = append(s.Threads, calls)
	}
	return s
}

// pieceBy is a piece of a script, of one kind: any threads, a stretch of one thread, rounds, or all but one thread.
func pieceBy(by *rule, kind, threads int) []int {
	piece := make([]int, 1+by.below(40))
	one := by.below(threads)
	for i := range piece {
		switch kind {
		case 0:
			piece[i] = by.below(threads)
		case 1:
			piece[i] = one
		case 2:
			piece[i] = one + i
		default:
			piece[i] = by.below(threads)
			if piece[i] == threads/2 && by.below(8) > 0 {
				piece[i]++
			}
		}
	}
	return piece
}

func made(t *testing.T, s api.Setup) *engine.Engine {
	t.Helper()
	e, fault := engine.New(s)
	if fault != api.OK {
		t.Fatalf("New of %+v: %d", s, fault)
	}
	return e
}

// wantJudged: an engine's deeds may be, all are explained and timely, and Final is its State.
func wantJudged(t *testing.T, what string, s api.Setup, e *engine.Engine) {
	t.Helper()
	l := e.Deeds()
	order, fault := history.Order(l)
	if want := orderOf(l); fault != api.OK || !slices.Equal(order, want) {
		t.Errorf("%s: Order: %v, %d, want %v", what, order, fault, want)
	}
	wantExplained(t, what, s, l, e.State()...)
	wantTimely(t, what, l, -1)
	if t.Failed() {
		t.Fatalf("%s, behind %d steps: %+v\n%+v", what, e.Steps(), s, l)
	}
}

// note counts what a history has.
func note(met map[string]int, l []api.Deed) {
	for _, d := range l {
		met[fmt.Sprint("ends ", d.End.How, " of ", d.Tag)]++
		met[fmt.Sprint("placed ", d.Mark >= 0, " of ", d.Tag)]++
		switch {
		case d.Number > 0 && d.End == going:
			met["published, not over"]++
		case d.Tag == api.Updates && d.End == going && len(d.Reads) > 0:
			met["an updater that goes on"]++
		case d.Tag == api.Reads && d.End == going && len(d.Reads) > 0:
			met["a reader that goes on"]++
		}
	}
	order := orderOf(l)
	for i, place := range order {
		d := l[place]
		if i > 0 && l[order[i-1]].Tag == api.Updates && l[order[i-1]].Number == 0 && d.Tag == api.Reads {
			met["a reader behind what was in vain"]++
		}
		if i+1 < len(order) && l[order[i+1]].Number > 0 && d.Tag == api.Reads && len(d.Reads) > 0 && d.Ended > l[order[i+1]].Ended && l[order[i+1]].Ended > 0 {
			met["a reader of an older stamp"]++
		}
	}
}

// P17.5: engines of many setups, with many threads in many orders of steps, behind each piece of a script.
func TestEngines(t *testing.T) {
	met := map[string]int{}
	for seed := range 1200 {
		by := rule(seed)
		s := setupBy(&by, 8)
		e, what := made(t, s), fmt.Sprint("the engine ", seed)
		wantJudged(t, what, s, e)
		for i := 0; i < 60 && !e.Over(); i++ {
			e.Run(pieceBy(&by, by.below(4), s.Config.Threads))
			wantJudged(t, what, s, e)
			note(met, e.Deeds())
		}
	}
	wants := []string{"published, not over", "an updater that goes on", "a reader that goes on", "a reader behind what was in vain", "a reader of an older stamp", "placed false of 1"}
	for _, tag := range []int{api.Reads, api.Updates} {
		for _, how := range []int{api.Going, api.Committed, api.Aborted, api.Failed} {
			wants = append(wants, fmt.Sprint("ends ", how, " of ", tag))
		}
	}
	for _, want := range wants {
		if met[want] < 100 {
			t.Errorf("%s: met %d times", want, met[want])
		}
	}
}

// P17.5: behind each single step of few threads, in many orders.
func TestEnginesStepByStep(t *testing.T) {
	s := api.Setup{
		Config: api.Config{Cells: 2, Threads: 4, Fuel: 30, Writes: 2},
		Start:  []float64{1, minus0},
		Programs: []api.Program{
			program(api.Updates, push(0), read, push(1), add, push(0), write, push(1), read, push(1), add, push(1), write, halt),
			program(api.Reads, push(0), read, emit, push(1), read, emit, halt),
			program(api.Updates, push(0), read, emit, push(50), push(0), write, in(api.OpAbort, 3)),
			program(api.Updates, push(1), read, in(api.OpDrop, 0), in(api.OpDrop, 0)),
		},
		Threads: [][]api.Call{{call(0), call(2), call(0)}, {call(1), call(1), call(1)}, {call(3), call(1), call(0)}, {call(2), call(1), call(3)}},
	}
	for seed := range 70 {
		by := rule(seed)
		e := made(t, s)
		for i := 0; !e.Over(); i++ {
			if i > 10_000 {
				t.Fatalf("not over: %+v", e.Deeds())
			}
			thread := by.below(4)
			for range 1 + by.below(2)*by.below(9) {
				e.Step(thread)
				wantJudged(t, fmt.Sprint("step by step ", seed), s, e)
			}
		}
	}
}

// P17.5: each order that there is of an updater's last steps with a reader's, by clones.
func TestEachOrder(t *testing.T) {
	s := api.Setup{
		Config: api.Config{Cells: 2, Threads: 2, Fuel: 20, Writes: 2},
		Programs: []api.Program{
			program(api.Updates, push(1), push(0), write, push(2), push(1), write, halt),
			program(api.Reads, push(1), read, push(0), read, emit, emit, halt),
		},
		Threads: [][]api.Call{{call(0)}, {call(1)}},
	}
	ends := 0
	var follow func(e *engine.Engine)
	follow = func(e *engine.Engine) {
		if e.Over() {
			ends++
			return
		}
		for thread := range 2 {
			if is, _ := e.Finished(thread); is {
				continue
			}
			next := e.Clone()
			// What has no access nobody sees: the orders of that are not told apart.
			for did := true; did && next.Count() == e.Count(); {
				did, _ = next.Step(thread)
			}
			wantJudged(t, "each order", s, next)
			follow(next)
		}
	}
	e := made(t, s)
	e.Run(slices.Repeat([]int{0}, 12))
	follow(e)
	if ends < 10000 {
		t.Errorf("%d orders", ends)
	}
}

// P17.5: as many threads and calls as may be.
func TestAllThreadsAndTurns(t *testing.T) {
	s := api.Setup{Config: api.Config{Cells: 256, Threads: 8, Fuel: 1024, Writes: 32}, Programs: []api.Program{
		adds(), tells(), program(api.Updates, push(0), read, push(9), push(0), write, in(api.OpAbort, 1)),
	}}
	for range 8 {
		s.Threads = append(s.Threads, slices.Repeat([]api.Call{call(0), call(1), call(2), call(1)}, 16))
	}
	by := rule(5)
	e := made(t, s)
	for i := 0; !e.Over(); i++ {
		if i > 10_000 {
			t.Fatalf("not over: %+v", e.Deeds())
		}
		e.Run(pieceBy(&by, by.below(4), 8))
		if i%20 == 0 {
			wantJudged(t, "all", s, e)
		}
	}
	wantJudged(t, "all", s, e)
	if l := e.Deeds(); len(l) != 512 || e.State()[0] != 8*16 {
		t.Errorf("%d deeds, %v", len(l), e.State()[0])
	}
}
