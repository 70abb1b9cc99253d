package writer_test

import (
	"fmt"
	"math"
	"slices"
	"testing"

	"beadle/api"
	"beadle/mem"
	"beadle/writer"
)

const (
	oneNaN   = 0x7ff8000000000000
	greatest = math.MaxUint64
)

// The parts, as Phase tells them.
const (
	drawing    = 1
	waiting    = 2
	marking    = 3
	running    = 4
	scanning   = 5
	writing    = 6
	publishing = 7
	passing    = 8
	over       = 9
)

// small has the words Next 0, Serving 1, Stamp 2, Census 3 and 4, Version 5, Now 6, Was 7.
var (
	small  = api.Config{Cells: 1, Threads: 2, Fuel: 20, Writes: 1}
	wide   = api.Config{Cells: 256, Threads: 8, Fuel: 1024, Writes: 32}
	minus0 = math.Copysign(0, -1)
)

// stamps are tickets, stamps and claims at which a narrower whole number, or one with a sign, would tell otherwise.
var stamps = []uint64{0, 1, 2, 1<<31 - 1, 1 << 31, 1<<32 - 1, 1 << 32, 1<<32 + 1, 1 << 53, 1<<53 + 1, 1<<62 - 1, 1 << 62, 1<<63 - 1, 1 << 63, greatest - 1, greatest}

// odd are bits of numbers: NaNs of many kinds, the noughts, the infinities and what stands beside them, ordinary ones.
var odd = []uint64{
	0x7ff0000000000001, 0x7ff7ffffffffffff, 0x7ff8000000000000, 0x7ff8000000000001, 0x7fffffffffffffff,
	0xfff0000000000001, 0xfff7ffffffffffff, 0xfff8000000000000, 0xfff8000000000001, 0xffffffffffffffff,
	0x0000000000000000, 0x8000000000000000, 0x0000000000000001, 0x8000000000000001, 0x7fefffffffffffff, 0xffefffffffffffff,
	0x7ff0000000000000, 0xfff0000000000000, 0x3ff0000000000000, 0xbff0000000000000, 0x4008000000000000, 0x400921fb54442d18,
}

func of(bits uint64) float64 { return math.Float64frombits(bits) }

func bitsOf(x float64) uint64 { return math.Float64bits(x) }

// fixed are the bits that a number of these bits is fixed to.
func fixed(bits uint64) uint64 {
	if x := of(bits); x != x {
		return oneNaN
	}
	return bits
}

func allBits(xs []float64) []uint64 {
	var l []uint64
	for _, x := range xs {
		l = append(l, bitsOf(x))
	}
	return l
}

func in(op, n int) api.Instr { return api.Instr{Op: op, N: n} }

func push(x float64) api.Instr { return api.Instr{Op: api.OpPush, X: x} }

var (
	read  = in(api.OpRead, 0)
	write = in(api.OpWrite, 0)
	emit  = in(api.OpEmit, 0)
	halt  = in(api.OpHalt, 0)
)

func program(tag int, code ...api.Instr) api.Program { return api.Program{Tag: tag, Code: code} }

// sets is the chapter's own: it writes 5 into cell 0.
func sets() api.Program { return program(api.Updates, push(5), push(0), write, halt) }

// touch is a cell and the bits of its number.
type touch struct {
	cell int
	bits uint64
}

func touches(l []api.Touch) []touch {
	var all []touch
	for _, one := range l {
		all = append(all, touch{one.Cell, bitsOf(one.X)})
	}
	return all
}

// look is all that an updater tells, numbers by their bits; rest is what a deed has beside that.
type look struct {
	phase, tag, mark, number, steps int
	args, out                       []uint64
	reads, writes                   []touch
	end                             api.End
	rest                            api.Deed
}

func lookOf(phase int, d api.Deed) look {
	l := look{phase: phase, tag: d.Tag, mark: d.Mark, number: d.Number, steps: d.Steps, args: allBits(d.Args), out: allBits(d.Out), reads: touches(d.Reads), writes: touches(d.Writes), end: d.End}
	d.Tag, d.Mark, d.Number, d.Steps, d.Args, d.Out, d.Reads, d.Writes, d.End = 0, 0, 0, 0, nil, nil, nil, nil, api.End{}
	l.rest = d
	return l
}

func lookAt(x *writer.Writer) look { return lookOf(x.Phase(), x.Deed()) }

// like tells whether two looks are the same: a list that is nil and one that is empty are.
func (l look) like(o look) bool { return fmt.Sprint(l) == fmt.Sprint(o) }

func wantLook(t *testing.T, what string, x *writer.Writer, want look) {
	t.Helper()
	if got := lookAt(x); !got.like(want) {
		t.Errorf("%s:\n got %+v,\nwant %+v", what, got, want)
	}
}

// placed is where things lie for a config that may be.
func placed(t *testing.T, c api.Config) api.Plan {
	t.Helper()
	p, e := mem.Place(c)
	if e != api.OK {
		t.Fatalf("Place(%+v): %d", c, e)
	}
	return p
}

// holding is a memory with these words, not open.
func holding(t *testing.T, words ...uint64) *mem.Mem {
	t.Helper()
	m, e := mem.New(len(words))
	if e != api.OK {
		t.Fatalf("New(%d): %d", len(words), e)
	}
	for i, word := range words {
		m.Poke(i, word)
	}
	return m
}

// filled is a memory whose words are all unlike, none of them 0, but that who draws next is served next. As the claims are above the stamp, no scan waits.
func filled(t *testing.T, words int) *mem.Mem {
	t.Helper()
	var l []uint64
	for i := range words {
		l = append(l, uint64(1000+i))
	}
	if words > 1 {
		l[1] = l[0]
	}
	return holding(t, l...)
}

// smallWith is a memory for the small config: the ticket 70 is drawn and served next, nobody is in the census.
func smallWith(t *testing.T, stamp, version, now, was uint64) *mem.Mem {
	t.Helper()
	return holding(t, 70, 70, stamp, 0, 0, version, now, was)
}

func isOpen(m *mem.Mem) bool {
	_, e := m.Clone().Load(0)
	return e == api.OK
}

// wantMem holds all of a memory against what it should be.
func wantMem(t *testing.T, what string, m *mem.Mem, words []uint64, open bool, count int) {
	t.Helper()
	if all := m.All(); !slices.Equal(all, words) {
		t.Errorf("%s: the words are %d, want %d", what, all, words)
	}
	if isOpen(m) != open || m.Count() != count {
		t.Errorf("%s: open %v, %d accesses, want %v, %d", what, isOpen(m), m.Count(), open, count)
	}
}

// wantWords holds the words alone.
func wantWords(t *testing.T, what string, m *mem.Mem, words ...uint64) {
	t.Helper()
	if all := m.All(); !slices.Equal(all, words) {
		t.Errorf("%s: the words are %d, want %d", what, all, words)
	}
}

func made(t *testing.T, c api.Config, thread int, p api.Program, args ...float64) *writer.Writer {
	t.Helper()
	x := writer.New(c, thread, p, args)
	if x == nil {
		t.Fatalf("New of %+v, the thread %d and %d args: nil", c, thread, len(args))
	}
	return x
}

// wantStep is a step with so many accesses; what it leaves open is what it has not used.
func wantStep(t *testing.T, what string, x *writer.Writer, m *mem.Mem, accesses int, last bool) {
	t.Helper()
	count := m.Count()
	is, e := x.Step(m)
	if is != last || e != api.OK {
		t.Errorf("%s: Step = %v, %d, want %v", what, is, e, last)
	}
	if m.Count() != count+accesses || isOpen(m) != (accesses == 0) {
		t.Errorf("%s: %d accesses, open %v, want %d", what, m.Count()-count, isOpen(m), accesses)
	}
}

// wantStepOK is a step that is not refused, of an updater that is stepped to its end; it gives up, so that no test goes on for ever.
func wantStepOK(t *testing.T, x *writer.Writer, m *mem.Mem) {
	t.Helper()
	is, e := x.Step(m)
	if e != api.OK || is != (x.Phase() == over) {
		t.Fatalf("Step = %v, %d, Phase %d", is, e, x.Phase())
	}
	if steps := x.Deed().Steps; steps > 5000 {
		t.Fatalf("%d steps, and not over", steps)
	}
}

// wantNoStep is a step that is refused: nothing is told and nothing has changed, neither in the memory nor in the updater.
func wantNoStep(t *testing.T, what string, x *writer.Writer, m *mem.Mem, want api.Errno) {
	t.Helper()
	words, open, count, was := m.All(), isOpen(m), m.Count(), lookAt(x)
	if is, e := x.Step(m); is || e != want {
		t.Errorf("%s: Step = %v, %d, want %d", what, is, e, want)
	}
	wantMem(t, what, m, words, open, count)
	wantLook(t, what, x, was)
}

// stepped does so many steps, none of which is refused.
func stepped(t *testing.T, x *writer.Writer, m *mem.Mem, steps int) *writer.Writer {
	t.Helper()
	for i := range steps {
		if _, e := x.Step(m); e != api.OK {
			t.Fatalf("step %d: %d", i, e)
		}
	}
	return x
}

// steppedTo steps it till its next step is of that part.
func steppedTo(t *testing.T, x *writer.Writer, m *mem.Mem, phase int) *writer.Writer {
	t.Helper()
	for x.Phase() != phase {
		if x.Phase() > phase {
			t.Fatalf("Phase %d, and never %d", x.Phase(), phase)
		}
		wantStepOK(t, x, m)
	}
	return x
}

// finished steps it till it is over, where it is its turn and nobody holds it up.
func finished(t *testing.T, x *writer.Writer, m *mem.Mem) *writer.Writer {
	t.Helper()
	return steppedTo(t, x, m, over)
}

func failed(e api.Errno) api.End { return api.End{How: api.Failed, E: e} }

var committed = api.End{How: api.Committed}

// P15.1: configs at each of their limits, one past it, and far off.
func TestNewOfConfigs(t *testing.T) {
	most := [4]int{256, 8, 1024, 32}
	for i := range most {
		for _, n := range []int{math.MinInt, math.MinInt + 1, -most[i], -1, 0, 1, 2, most[i] - 1, most[i], most[i] + 1, 2*most[i] + 1, 1 << 31, 1 << 32, 1<<32 + 1, math.MaxInt} {
			for _, numbers := range [][4]int{{1, 1, 1, 1}, most} {
				numbers[i] = n
				c := api.Config{Cells: numbers[0], Threads: numbers[1], Fuel: numbers[2], Writes: numbers[3]}
				x := writer.New(c, 0, sets(), []float64{1})
				if (x != nil) != (n >= 1 && n <= most[i]) {
					t.Errorf("New of %+v: %v", c, x)
				}
				if x != nil {
					wantLook(t, fmt.Sprint(c), x, look{phase: drawing, tag: api.Updates, mark: -1, args: []uint64{bitsOf(1)}})
				}
			}
		}
	}
	if writer.New(api.Config{}, 0, api.Program{}, nil) != nil {
		t.Error("New of nothing: an updater")
	}
}

// P15.1: threads that there are and such as there are not, by the config's own number of them.
func TestNewOfThreads(t *testing.T) {
	for threads := 1; threads <= 8; threads++ {
		c := api.Config{Cells: 1, Threads: threads, Fuel: 4, Writes: 1}
		for _, thread := range []int{math.MinInt, math.MinInt + 1, math.MinInt32, -8, -2, -1, threads, threads + 1, 7, 8, 9, 255, 256, 1 << 31, 1 << 32, 1<<32 + 1, math.MaxInt - 1, math.MaxInt} {
			if x := writer.New(c, thread, sets(), nil); (x != nil) != (thread >= 0 && thread < threads) {
				t.Errorf("New of the thread %d of %d: %v", thread, threads, x)
			}
		}
		for thread := range threads {
			eachThread(t, c, thread)
		}
	}
}

// eachThread: the thread is not seen: whichever it is, each step leaves the same words and tells the same.
func eachThread(t *testing.T, c api.Config, thread int) {
	t.Helper()
	what := fmt.Sprint("the thread ", thread, " of ", c.Threads)
	m, first := filled(t, placed(t, c).Words), made(t, c, 0, sets())
	n, x := m.Clone(), made(t, c, thread, sets())
	for x.Phase() != over {
		wantStepOK(t, first, m)
		wantStepOK(t, x, n)
		wantLook(t, what, x, lookAt(first))
		wantMem(t, what, n, m.All(), isOpen(m), m.Count())
	}
	wantLook(t, what, x, look{phase: over, tag: api.Updates, mark: 1000, number: 1003, end: committed, steps: 3 + 4 + c.Threads + 3 + 2, writes: []touch{{0, bitsOf(5)}}})
}

// P15.1: as many args as may be, and more.
func TestNewOfArgs(t *testing.T) {
	for many := range 8 + 1 {
		var args []float64
		for i := range many {
			args = append(args, float64(i)+0.5)
		}
		x := made(t, small, 0, program(api.Updates, in(api.OpArg, 7), emit, halt), args...)
		wantLook(t, fmt.Sprint(many, " args"), x, look{phase: drawing, tag: api.Updates, mark: -1, args: allBits(args)})
		finished(t, x, filled(t, 8))
		eighth := append(args, make([]float64, 8-many)...)[7]
		wantLook(t, fmt.Sprint(many, " args"), x, look{phase: over, tag: api.Updates, mark: 1000, number: 1003, args: allBits(args), out: allBits([]float64{eighth}), end: committed, steps: 10})
	}
	for _, many := range []int{9, 10, 16, 255, 256, 257, 1 << 16} {
		for _, p := range []api.Program{{}, sets()} {
			if writer.New(wide, 0, p, make([]float64, many)) != nil {
				t.Errorf("New of %d args: an updater", many)
			}
		}
	}
}

// P15.1: where two things may not be there is none either, and one that is wrong is not outweighed by another.
func TestNewOfSeveralWrongThings(t *testing.T) {
	for _, c := range []api.Config{small, {Cells: 1, Threads: 9, Fuel: 1, Writes: 1}, {Cells: 0, Threads: 2, Fuel: 1, Writes: 1}} {
		for _, thread := range []int{0, -1, 2, 8, 9} {
			for _, many := range []int{8, 9} {
				right := c == small && thread == 0 && many == 8
				if x := writer.New(c, thread, sets(), make([]float64, many)); (x != nil) != right {
					t.Errorf("New of %+v, the thread %d, %d args: %v", c, thread, many, x)
				}
			}
		}
	}
}

// wrong are programs that may not be, each in one thing.
func wrong() map[string]api.Program {
	return map[string]api.Program{
		"nothing":           {},
		"no instruction":    program(api.Updates),
		"no instruction, r": program(api.Reads),
		"the tag 0":         program(0, halt),
		"the tag 3":         program(3, halt),
		"the tag -1":        program(-1, halt),
		"the least tag":     program(math.MinInt, halt),
		"the greatest tag":  program(math.MaxInt, halt),
		"too many":          program(api.Updates, slices.Repeat([]api.Instr{halt}, 1025)...),
		"OpNone at the end": program(api.Updates, halt, in(api.OpNone, 0)),
		"Op 21":             program(api.Updates, in(21, 0)),
		"Op -1":             program(api.Updates, in(-1, 0)),
		"a far place":       program(api.Updates, halt, in(api.OpJump, 2)),
		"arg 8":             program(api.Updates, in(api.OpArg, 8)),
		"halt with -0":      program(api.Updates, api.Instr{Op: api.OpHalt, X: minus0}),
	}
}

// P15.1, P15.4: its program may be any: one that may not be draws, waits and marks, fails with its first step of Running, and passes on; its tag is told as it was.
func TestProgramsThatMayNotBe(t *testing.T) {
	for what, p := range wrong() {
		for _, fuel := range []int{1, 2, 1024} {
			c := small
			c.Fuel = fuel
			m, x := smallWith(t, 5, 2, 3, 4), made(t, c, 1, p, 3)
			want := look{phase: drawing, tag: p.Tag, mark: -1, args: []uint64{bitsOf(3)}}
			wantLook(t, what, x, want)
			for range 3 {
				wantStep(t, what, x, m, 1, false)
			}
			want.phase, want.mark, want.steps = running, 70, 3
			wantLook(t, what, x, want)
			wantStep(t, what, x, m, 0, false)
			want.phase, want.steps = passing, 4
			wantLook(t, what, x, want)
			wantStep(t, what, x, m, 1, true)
			want.phase, want.end, want.steps = over, failed(api.ErrBadProgram), 5
			wantLook(t, what, x, want)
			wantMem(t, what, m, []uint64{71, 71, 5, 0, 0, 2, 3, 4}, false, 4)
		}
	}
}

// P15.1, P15.4: a program with the tag Reads goes an updater's way, too: it has a ticket, and publishes a stamp.
func TestTheTagReads(t *testing.T) {
	m := smallWith(t, 3, 2, bitsOf(7), bitsOf(6))
	x := finished(t, made(t, small, 1, program(api.Reads, push(0), read, emit, halt)), m)
	wantLook(t, "reads", x, look{phase: over, tag: api.Reads, mark: 70, number: 4, end: committed, steps: 11, reads: []touch{{0, bitsOf(7)}}, out: []uint64{bitsOf(7)}})
	wantMem(t, "reads", m, []uint64{71, 71, 4, 0, 0, 2, bitsOf(7), bitsOf(6)}, false, 8)
}

// P15.1: the longest program that may be, gone through to its last instruction.
func TestTheLongestProgram(t *testing.T) {
	x := made(t, wide, 7, program(api.Updates, append(slices.Repeat([]api.Instr{in(api.OpGet, 0), in(api.OpDrop, 0)}, 511), in(api.OpGet, 0), halt)...))
	finished(t, x, filled(t, 779))
	wantLook(t, "1024 instructions", x, look{phase: over, tag: api.Updates, mark: 1000, number: 1003, end: committed, steps: 3 + 1024 + 8 + 2})
}

// R4: what was handed in is neither changed nor kept, the spare room of its lists too; R6: NaNs of all kinds are one.
func TestHandedInIsNotKept(t *testing.T) {
	for _, nan := range odd {
		whole := []float64{of(nan), minus0, 2, 3, of(nan)}
		code := []api.Instr{in(api.OpArg, 0), emit, in(api.OpArg, 1), emit, in(api.OpArg, 2), emit, push(of(nan)), emit, halt, {Op: 99, X: of(nan)}}
		wasNumbers, wasCode := allBits(whole), fmt.Sprint(code)
		x := writer.New(small, 0, api.Program{Tag: api.Updates, Code: code[:9]}, whole[:2])
		kept := finished(t, x.Clone(), filled(t, 8))
		if !slices.Equal(allBits(whole), wasNumbers) || fmt.Sprint(code) != wasCode || bitsOf(code[6].X) != nan {
			t.Errorf("%x: what was handed in has changed", nan)
		}
		for i := range whole {
			whole[i] = -1
		}
		for i := range code {
			code[i] = in(api.OpAbort, 7)
		}
		finished(t, x, filled(t, 8))
		want := look{phase: over, tag: api.Updates, mark: 1000, number: 1003, args: []uint64{fixed(nan), bitsOf(minus0)}, end: committed, steps: 16, out: []uint64{fixed(nan), bitsOf(minus0), 0, fixed(nan)}}
		wantLook(t, fmt.Sprintf("%x", nan), x, want)
		wantLook(t, fmt.Sprintf("%x, ahead of the change", nan), kept, want)
	}
}

// R5: two that were made alike are not one.
func TestAlikeAreTwo(t *testing.T) {
	m := smallWith(t, 3, 2, bitsOf(7), bitsOf(6))
	a, b := made(t, small, 1, sets()), made(t, small, 1, sets())
	finished(t, a, m)
	wantLook(t, "the other", b, look{phase: drawing, tag: api.Updates, mark: -1})
	finished(t, b, m)
	want := look{phase: over, tag: api.Updates, mark: 70, number: 4, end: committed, steps: 14, writes: []touch{{0, bitsOf(5)}}}
	wantLook(t, "the one", a, want)
	want.mark, want.number = 71, 5
	wantLook(t, "the other", b, want)
	wantWords(t, "both", m, 72, 72, 5, 0, 0, 5, bitsOf(5), bitsOf(5))
}
