package engine_test

import (
	"fmt"
	"iter"
	"math"
	"slices"
	"testing"

	"beadle/api"
	"beadle/engine"
)

const oneNaN = 0x7ff8000000000000

var minus0 = math.Copysign(0, -1)

// odd are bits of numbers: NaNs of many kinds, the noughts, the infinities and what stands beside them, ordinary ones.
var odd = []uint64{
	0x7ff0000000000001, 0x7ff7ffffffffffff, 0x7ff8000000000000, 0x7ff8000000000001, 0x7fffffffffffffff,
	0xfff0000000000001, 0xfff7ffffffffffff, 0xfff8000000000000, 0xfff8000000000001, 0xffffffffffffffff,
	0x0000000000000000, 0x8000000000000000, 0x0000000000000001, 0x8000000000000001, 0x7fefffffffffffff, 0xffefffffffffffff,
	0x7ff0000000000000, 0xfff0000000000000, 0x3ff0000000000000, 0xbff0000000000000, 0x4008000000000000, 0x400921fb54442d18,
}

func of(bits uint64) float64 { return math.Float64frombits(bits) }

func bitsOf(x float64) uint64 { return math.Float64bits(x) }

// fixed are the bits that a number is fixed to.
func fixed(x float64) uint64 {
	if x != x {
		return oneNaN
	}
	return bitsOf(x)
}

func in(op, n int) api.Instr { return api.Instr{Op: op, N: n} }

func push(x float64) api.Instr { return api.Instr{Op: api.OpPush, X: x} }

var (
	read  = in(api.OpRead, 0)
	write = in(api.OpWrite, 0)
	emit  = in(api.OpEmit, 0)
	halt  = in(api.OpHalt, 0)
)

func program(tag int, code ...api.Instr) api.Program { return api.Program{Tag: tag, Code: code} }

// sets and tells are the chapter's own: one writes 5 into cell 0, one emits what cell 0 has. Where nobody holds them up they have 14 and 10 steps.
func sets() api.Program { return program(api.Updates, push(5), push(0), write, halt) }

func tells() api.Program { return program(api.Reads, push(0), read, emit, halt) }

// adds adds its argument to the cell 0, and tells what the cell had.
func adds() api.Program {
	return program(api.Updates, push(0), read, in(api.OpDup, 0), emit, in(api.OpArg, 0), in(api.OpTwo, api.TwoAdd), push(0), write, halt)
}

// small has the words Next 0, Serving 1, Stamp 2, Census 3 and 4, Version 5, Now 6, Was 7.
var small = api.Config{Cells: 1, Threads: 2, Fuel: 20, Writes: 1}

func call(program int, args ...float64) api.Call { return api.Call{Program: program, Args: args} }

// chapters is the setup of the chapter's examples.
func chapters() api.Setup {
	return api.Setup{Config: small, Programs: []api.Program{sets(), tells()}, Threads: [][]api.Call{{call(0)}, {call(1)}}}
}

func made(t *testing.T, s api.Setup) *engine.Engine {
	t.Helper()
	e, fault := engine.New(s)
	if e == nil || fault != api.OK {
		t.Fatalf("New of %+v: %v, %d", s.Config, e, fault)
	}
	return e
}

func times(n, thread int) []int { return slices.Repeat([]int{thread}, n) }

// ran is the engine behind a script, each step of which does something.
func ran(t *testing.T, e *engine.Engine, script ...int) *engine.Engine {
	t.Helper()
	if n, fault := e.Run(script); n != len(script) || fault != api.OK {
		t.Fatalf("Run of %v: %d, %d", script, n, fault)
	}
	return e
}

// tillOver counts from 0 on, as long as an engine is not over; it gives up, so that no test goes on for ever.
func tillOver(t *testing.T, e *engine.Engine) iter.Seq[int] {
	return func(yield func(int) bool) {
		t.Helper()
		for i := 0; !e.Over(); i++ {
			if i > 100_000 {
				t.Fatalf("not over: %+v", e.Deeds())
			}
			if !yield(i) {
				return
			}
		}
	}
}

// finish steps all threads in turn till they have finished.
func finish(t *testing.T, e *engine.Engine) *engine.Engine {
	t.Helper()
	for i := range tillOver(t, e) {
		e.Step(i % threadsOf(e))
	}
	return e
}

// finishOne steps a thread till it has finished.
func finishOne(t *testing.T, e *engine.Engine, thread int) {
	t.Helper()
	for i := 0; ; i++ {
		if is, _ := e.Finished(thread); is {
			return
		}
		if i > 100_000 {
			t.Fatalf("%d has not finished: %+v", thread, e.Deeds())
		}
		ran(t, e, thread)
	}
}

func threadsOf(e *engine.Engine) int {
	n := 0
	for _, fault := e.Finished(n); fault == api.OK; _, fault = e.Finished(n) {
		n++
	}
	return n
}

func sameNumbers(a, b []float64) bool {
	return slices.EqualFunc(a, b, func(x, y float64) bool { return bitsOf(x) == bitsOf(y) })
}

func sameTouches(a, b []api.Touch) bool {
	return slices.EqualFunc(a, b, func(x, y api.Touch) bool { return x.Cell == y.Cell && bitsOf(x.X) == bitsOf(y.X) })
}

// wholes are a deed's fields that are whole numbers.
func wholes(d api.Deed) [14]int {
	return [14]int{d.Thread, d.No, d.Program, d.Tag, d.Mark, d.Number, d.End.How, d.End.Code, int(d.End.E), d.Begun, d.Ended, d.Steps, d.Ahead, d.From<<32 + d.To}
}

// sameDeed holds two deeds against each other, numbers by their bits; a list that is nil and one that is empty are the same.
func sameDeed(a, b api.Deed) bool {
	return wholes(a) == wholes(b) && sameNumbers(a.Args, b.Args) && sameNumbers(a.Out, b.Out) && sameTouches(a.Reads, b.Reads) && sameTouches(a.Writes, b.Writes)
}

// look is all that an engine tells, copied: so it stays as it was told, whoever shares memory with whom.
type look struct {
	deeds                []api.Deed
	state                []float64
	words                []uint64
	finished             []bool
	over                 bool
	steps, rounds, count int
}

func lookAt(e *engine.Engine) look {
	l := look{state: slices.Clone(e.State()), words: slices.Clone(e.Words()), over: e.Over(), steps: e.Steps(), rounds: e.Rounds(), count: e.Count()}
	for _, d := range e.Deeds() {
		d.Args, d.Out, d.Reads, d.Writes = slices.Clone(d.Args), slices.Clone(d.Out), slices.Clone(d.Reads), slices.Clone(d.Writes)
		l.deeds = append(l.deeds, d)
	}
	for thread := range threadsOf(e) {
		is, _ := e.Finished(thread)
		l.finished = append(l.finished, is)
	}
	return l
}

func (l look) like(o look) bool {
	return l.over == o.over && l.steps == o.steps && l.rounds == o.rounds && l.count == o.count && slices.Equal(l.words, o.words) &&
		slices.Equal(l.finished, o.finished) && sameNumbers(l.state, o.state) && slices.EqualFunc(l.deeds, o.deeds, sameDeed)
}

func wantLook(t *testing.T, what string, e *engine.Engine, want look) {
	t.Helper()
	if got := lookAt(e); !got.like(want) {
		t.Errorf("%s:\n got %+v,\nwant %+v", what, got, want)
	}
}

func wantWords(t *testing.T, what string, e *engine.Engine, words ...uint64) {
	t.Helper()
	if got := e.Words(); !slices.Equal(got, words) {
		t.Errorf("%s: the words are %x, want %x", what, got, words)
	}
}

func wantState(t *testing.T, what string, e *engine.Engine, state ...float64) {
	t.Helper()
	if got := e.State(); !sameNumbers(got, state) {
		t.Errorf("%s: State is %v, want %v", what, got, state)
	}
}

// wantDeed holds one deed against what it should be.
func wantDeed(t *testing.T, what string, e *engine.Engine, i int, want api.Deed) {
	t.Helper()
	l := e.Deeds()
	if i >= len(l) || !sameDeed(l[i], want) {
		t.Errorf("%s: the deeds are\n%+v, want of the %d-th\n%+v", what, l, i, want)
	}
}

// wantNoStep is a Step that does nothing: nothing that is told has changed.
func wantNoStep(t *testing.T, what string, e *engine.Engine, thread int, want api.Errno) {
	t.Helper()
	was := lookAt(e)
	if is, fault := e.Step(thread); is || fault != want {
		t.Errorf("%s: Step(%d) = %v, %d, want %d", what, thread, is, fault, want)
	}
	wantLook(t, fmt.Sprint(what, ", behind Step(", thread, ")"), e, was)
}

// wantStep is a Step that does something, with so many accesses.
func wantStep(t *testing.T, what string, e *engine.Engine, thread, accesses int) {
	t.Helper()
	steps, count := e.Steps(), e.Count()
	if is, fault := e.Step(thread); !is || fault != api.OK {
		t.Errorf("%s: Step(%d) = %v, %d", what, thread, is, fault)
	}
	if e.Steps() != steps+1 || e.Count() != count+accesses {
		t.Errorf("%s: Step(%d): %d steps, %d accesses, want 1, %d", what, thread, e.Steps()-steps, e.Count()-count, accesses)
	}
}

var committed = api.End{How: api.Committed}

func failed(fault api.Errno) api.End { return api.End{How: api.Failed, E: fault} }

// rule is a source of numbers that are the same with each run.
type rule uint64

func (r *rule) below(n int) int {
	*r = *r*6364136223846793005 + 1442695040888963407
	return int(uint64(*r>>33) % uint64(n))
}
