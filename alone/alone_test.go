package alone_test

import (
	"fmt"
	"math"
	"slices"
	"strings"
	"testing"

	"beadle/alone"
	"beadle/api"
	"beadle/code"
	"beadle/state"
)

const oneNaN = 0x7ff8000000000000

// nans are NaNs of many bits: quiet, signalling, of both signs, at the edges of what is one.
var nans = []uint64{
	0x7ff0000000000001, 0x7ff7ffffffffffff, 0x7ff8000000000000, 0x7ff8000000000001, 0x7fffffffffffffff,
	0xfff0000000000001, 0xfff7ffffffffffff, 0xfff8000000000000, 0xfff8000000000001, 0xffffffffffffffff,
}

// plain are bits that no fixing may touch: the noughts, the infinities and what stands beside them, ordinary numbers.
var plain = []uint64{
	0x0000000000000000, 0x8000000000000000, 0x0000000000000001, 0x8000000000000001,
	0x000fffffffffffff, 0x0010000000000000, 0x7fefffffffffffff, 0xffefffffffffffff,
	0x7ff0000000000000, 0xfff0000000000000, 0x3ff0000000000000, 0xbff0000000000000, 0x4008000000000000, 0x400921fb54442d18,
}

// odd are the numbers of all these bits.
func odd() []float64 {
	var xs []float64
	for _, b := range slices.Concat(nans, plain) {
		xs = append(xs, math.Float64frombits(b))
	}
	return xs
}

// right are the bits that a number is fixed to.
func right(x float64) uint64 {
	if x != x {
		return oneNaN
	}
	return math.Float64bits(x)
}

func rights(xs ...float64) []uint64 {
	var bits []uint64
	for _, x := range xs {
		bits = append(bits, right(x))
	}
	return bits
}

func bitsOf(xs []float64) []uint64 {
	var bits []uint64
	for _, x := range xs {
		bits = append(bits, math.Float64bits(x))
	}
	return bits
}

var (
	minus0 = math.Copysign(0, -1)
	small  = api.Config{Cells: 2, Threads: 1, Fuel: 20, Writes: 2}
	wide   = api.Config{Cells: 256, Threads: 8, Fuel: 1024, Writes: 32}
)

func in(op, n int) api.Instr { return api.Instr{Op: op, N: n} }

func push(x float64) api.Instr { return api.Instr{Op: api.OpPush, X: x} }

func program(tag int, code ...api.Instr) api.Program { return api.Program{Tag: tag, Code: code} }

// parsed is the program of a text whose lines stand behind commas.
func parsed(t *testing.T, text string) api.Program {
	t.Helper()
	p, e, line := code.Parse(strings.ReplaceAll(text, ", ", "\n") + "\n")
	if e != api.OK {
		t.Fatalf("Parse of %q: %d in line %d", text, e, line)
	}
	return p
}

// adds is the program of the chapter's first example.
func adds(t *testing.T, last string) api.Program {
	t.Helper()
	return parsed(t, "updates, push 0, read, push 1, read, add, push 0, write, "+last)
}

func of(t *testing.T, xs ...float64) *state.State {
	t.Helper()
	s, e := state.Of(xs)
	if e != api.OK {
		t.Fatalf("Of %d numbers: %d", len(xs), e)
	}
	return s
}

// counted is a state in which each cell has a number of its own, none of them its address.
func counted(t *testing.T, cells int) *state.State {
	t.Helper()
	var xs []float64
	for i := range cells {
		xs = append(xs, 1000+float64(i))
	}
	return of(t, xs...)
}

// touch is a cell and the bits of its number.
type touch struct {
	cell int
	bits uint64
}

func touches(l []api.Touch) []touch {
	var all []touch
	for _, one := range l {
		all = append(all, touch{one.Cell, math.Float64bits(one.X)})
	}
	return all
}

func at(cell int, x float64) touch { return touch{cell, right(x)} }

// went is an api.Result with the bits of its numbers.
type went struct {
	end           api.End
	out           []uint64
	reads, writes []touch
	fuel          int
}

func wentBy(r api.Result) went {
	return went{r.End, bitsOf(r.Out), touches(r.Reads), touches(r.Writes), r.Fuel}
}

func (w went) like(o went) bool {
	return w.end == o.end && w.fuel == o.fuel && slices.Equal(w.out, o.out) && slices.Equal(w.reads, o.reads) && slices.Equal(w.writes, o.writes)
}

func wantResult(t *testing.T, what string, r api.Result, want went) {
	t.Helper()
	wantWent(t, what, wentBy(r), want)
}

func wantWent(t *testing.T, what string, got, want went) {
	t.Helper()
	if !got.like(want) {
		t.Errorf("%s:\n got %+v,\nwant %+v", what, got, want)
	}
}

func wantState(t *testing.T, what string, s *state.State, want ...uint64) {
	t.Helper()
	if got := bitsOf(s.All()); !slices.Equal(got, want) {
		t.Errorf("%s: the state is %x, want %x", what, got, want)
	}
}

func wantErrno(t *testing.T, what string, got, want api.Errno) {
	t.Helper()
	if got != want {
		t.Errorf("%s: %d, want %d", what, got, want)
	}
}

// wantRun runs a program that may be run, and holds what became of it and of the state against what is wanted.
func wantRun(t *testing.T, what string, c api.Config, p api.Program, args []float64, s *state.State, want went, behind ...uint64) {
	t.Helper()
	r, e := alone.Run(c, p, args, s)
	wantErrno(t, what, e, api.OK)
	wantResult(t, what, r, want)
	wantState(t, what, s, behind...)
}

// wantNoRun: refused, with nothing told and nothing done.
func wantNoRun(t *testing.T, what string, c api.Config, p api.Program, args []float64, s *state.State) {
	t.Helper()
	was := bitsOf(s.All())
	r, e := alone.Run(c, p, args, s)
	wantErrno(t, what, e, api.ErrArg)
	wantResult(t, what, r, went{})
	wantState(t, what, s, was...)
}

func wantCalls(t *testing.T, what string, c api.Config, l []api.Program, calls []api.Call, s *state.State, want ...went) {
	t.Helper()
	got, e := alone.Calls(c, l, calls, s)
	wantErrno(t, what, e, api.OK)
	if len(got) != len(want) {
		t.Fatalf("%s: %d results, want %d", what, len(got), len(want))
	}
	for i, r := range got {
		wantResult(t, fmt.Sprint(what, ", call ", i), r, want[i])
	}
}

// wantNoCalls: refused, with nothing told and nothing done.
func wantNoCalls(t *testing.T, what string, c api.Config, l []api.Program, calls []api.Call, s *state.State, want api.Errno) {
	t.Helper()
	was := bitsOf(s.All())
	got, e := alone.Calls(c, l, calls, s)
	wantErrno(t, what, e, want)
	if len(got) != 0 {
		t.Errorf("%s: %d results", what, len(got))
	}
	wantState(t, what, s, was...)
}

var committed = api.End{How: api.Committed}

func aborted(code int) api.End { return api.End{How: api.Aborted, Code: code} }

func failed(e api.Errno) api.End { return api.End{How: api.Failed, E: e} }

// The chapter's first example.
func TestExampleOfRun(t *testing.T) {
	told := went{committed, nil, []touch{at(0, 3), at(1, 4)}, []touch{at(0, 7)}, 8}
	wantRun(t, "halt", small, adds(t, "halt"), nil, of(t, 3, 4), told, rights(7, 4)...)
	told.end = aborted(5)
	wantRun(t, "abort 5", small, adds(t, "abort 5"), nil, of(t, 3, 4), told, rights(3, 4)...)
}

// The chapter's second example.
func TestExampleOfWhatIsRefused(t *testing.T) {
	p := adds(t, "halt")
	wantNoRun(t, "three cells", small, p, nil, of(t, 3, 4, 5))
	wantNoCalls(t, "the program 1", small, []api.Program{p}, []api.Call{{Program: 1}}, of(t, 3, 4), api.ErrArg)
	wantNoCalls(t, "the program 1 at last", small, []api.Program{p}, []api.Call{{}, {Program: 1}}, of(t, 3, 4), api.ErrArg)
}

// P9.1, P9.2: configs at each of their limits, and past them; of those that may not be neither runs anything.
func TestConfigs(t *testing.T) {
	p := parsed(t, "updates, push 7, push 0, write, halt")
	most := [4]int{256, 8, 1024, 32}
	for i := range most {
		for _, n := range []int{math.MinInt, -most[i], -1, 0, 1, 4, most[i] - 1, most[i], most[i] + 1, 2*most[i] + 1, 1 << 31, 1 << 32, 1<<32 + 1, math.MaxInt} {
			for _, numbers := range [][4]int{{1, 1, 4, 1}, most} {
				numbers[i] = n
				c := api.Config{Cells: numbers[0], Threads: numbers[1], Fuel: numbers[2], Writes: numbers[3]}
				ofConfig(t, c, p, n >= 1 && n <= most[i])
			}
		}
	}
	ofConfig(t, api.Config{}, p, false)
}

func ofConfig(t *testing.T, c api.Config, p api.Program, mayBe bool) {
	t.Helper()
	what := fmt.Sprintf("%+v", c)
	cells := min(max(c.Cells, 1), 256)
	l, calls := []api.Program{p}, []api.Call{{}}
	if !mayBe {
		wantNoRun(t, what, c, p, nil, counted(t, cells))
		wantNoCalls(t, what, c, l, calls, counted(t, cells), api.ErrArg)
		wantNoCalls(t, what, c, nil, nil, counted(t, cells), api.ErrArg)
		return
	}
	told := went{end: committed, writes: []touch{at(0, 7)}, fuel: 4}
	behind := bitsOf(counted(t, cells).All())
	behind[0] = right(7)
	if c.Fuel < 4 {
		told = went{end: failed(api.ErrFuel), fuel: c.Fuel}
		behind[0] = right(1000)
	}
	wantRun(t, what, c, p, nil, counted(t, cells), told, behind...)
	s := counted(t, cells)
	wantCalls(t, what, c, l, calls, s, told)
	wantState(t, what, s, behind...)
}

// P9.1: the config's own numbers are those that the program runs by.
func TestConfigCounts(t *testing.T) {
	wantRun(t, "the last cell", wide, parsed(t, "reads, push 255, read, emit, halt"), nil, counted(t, 256),
		went{committed, rights(1255), []touch{at(255, 1255)}, nil, 4}, bitsOf(counted(t, 256).All())...)
	wantRun(t, "one behind it", wide, parsed(t, "reads, push 256, read, emit, halt"), nil, counted(t, 256),
		went{end: failed(api.ErrBadProgram), fuel: 2}, bitsOf(counted(t, 256).All())...)
	wantRun(t, "the cell 1 of one", api.Config{Cells: 1, Threads: 1, Fuel: 9, Writes: 1}, parsed(t, "reads, push 1, read, emit, halt"), nil, of(t, 5),
		went{end: failed(api.ErrBadProgram), fuel: 2}, rights(5)...)
	for threads := 1; threads <= 8; threads++ {
		c := small
		c.Threads = threads
		wantRun(t, "threads", c, adds(t, "halt"), nil, of(t, 3, 4), went{committed, nil, []touch{at(0, 3), at(1, 4)}, []touch{at(0, 7)}, 8}, rights(7, 4)...)
	}
}

func numbers(many int) []float64 {
	var xs []float64
	for i := range many {
		xs = append(xs, float64(i)+0.5)
	}
	return xs
}

// P9.1: as many arguments as may be, each at its place, and more; whatever the program is.
func TestArgs(t *testing.T) {
	p := parsed(t, "reads, arg 0, emit, arg 1, emit, arg 2, emit, arg 3, emit, arg 4, emit, arg 5, emit, arg 6, emit, arg 7, emit, halt")
	for many := range 8 + 1 {
		args := numbers(many)
		wantRun(t, fmt.Sprint(many, " args"), small, p, args, of(t, 3, 4),
			went{end: committed, out: rights(append(args, make([]float64, 8-many)...)...), fuel: 17}, rights(3, 4)...)
	}
	for _, many := range []int{9, 10, 16, 256, 1 << 16} {
		for _, q := range []api.Program{p, adds(t, "halt"), {}, program(3, in(api.OpHalt, 0))} {
			wantNoRun(t, fmt.Sprint(many, " args"), small, q, make([]float64, many), of(t, 3, 4))
		}
	}
}

// P9.1, P9.2: a state with another number of cells than the config has.
func TestStatesOfAnotherSize(t *testing.T) {
	p := parsed(t, "updates, push 7, push 0, write, halt")
	sizes := []int{1, 2, 3, 4, 127, 128, 254, 255, 256}
	for _, cells := range sizes {
		for _, has := range sizes {
			what := fmt.Sprint("a state of ", has, " for ", cells)
			c := api.Config{Cells: cells, Threads: 1, Fuel: 4, Writes: 1}
			if has != cells {
				wantNoRun(t, what, c, p, nil, counted(t, has))
				wantNoCalls(t, what, c, []api.Program{p}, []api.Call{{}}, counted(t, has), api.ErrArg)
				wantNoCalls(t, what, c, nil, nil, counted(t, has), api.ErrArg)
				continue
			}
			ofConfig(t, c, p, true)
		}
	}
}

// P9.1: each cell's number is told by the address that asks for it.
func TestReadsOfEachCell(t *testing.T) {
	p := parsed(t, "reads, arg 0, read, emit, halt")
	s := counted(t, 256)
	for cell := range 256 {
		x := 1000 + float64(cell)
		wantRun(t, fmt.Sprint("the cell ", cell), wide, p, []float64{float64(cell)}, s, went{committed, rights(x), []touch{at(cell, x)}, nil, 4}, bitsOf(counted(t, 256).All())...)
	}
}

// P9.1: a cell that was written is read as it was written, another one as the state has it, again and again; all reads are told in their order.
func TestReadsOfOwnWrites(t *testing.T) {
	p := parsed(t, "updates, push 0, read, push 9, push 0, write, push 0, read, push 1, read, push 8, push 0, write, push 0, read, push 1, read, halt")
	reads := []touch{at(0, 3), at(0, 9), at(1, 4), at(0, 8), at(1, 4)}
	wantRun(t, "reads", small, p, nil, of(t, 3, 4), went{committed, nil, reads, []touch{at(0, 8)}, 17}, rights(8, 4)...)
	p.Code[16] = in(api.OpAbort, 0)
	wantRun(t, "reads of one that aborts", small, p, nil, of(t, 3, 4), went{aborted(0), nil, reads, []touch{at(0, 8)}, 17}, rights(3, 4)...)
	// A write of what the cell has already is a write all the same.
	wantRun(t, "the same number", small, parsed(t, "updates, push 3, push 0, write, push 0, read, halt"), nil, of(t, 3, 4), went{committed, nil, []touch{at(0, 3)}, []touch{at(0, 3)}, 6}, rights(3, 4)...)
}

// P9.1, P9.3: however it ends, with writes made ahead of that: what was emitted, read and written is told; the state has the writes just of one that committed.
func TestEnds(t *testing.T) {
	c := api.Config{Cells: 3, Threads: 1, Fuel: 12, Writes: 2}
	ahead := "updates, push 8, push 2, write, push 1, read, emit, push 9, push 0, write, "
	told := went{out: rights(4), reads: []touch{at(1, 4)}, writes: []touch{at(2, 8), at(0, 9)}}
	for _, end := range []struct {
		last string
		how  api.End
		fuel int
	}{
		{"halt", committed, 10},
		{"ret", committed, 10},
		{"call 11, halt, ret", committed, 12},
		{"abort 0", aborted(0), 10},
		{"abort 1", aborted(1), 10},
		{"abort 99", aborted(99), 10},
		{"drop", failed(api.ErrStack), 10},
		{"call 9", failed(api.ErrFuel), 12},
		{"jump 9", failed(api.ErrFuel), 12},
		{"jump 10, push 3, read", failed(api.ErrBadProgram), 12},
		{"push 3, write", failed(api.ErrStack), 11},
		{"push 3, push 3, write", failed(api.ErrBadProgram), 12},
		{"push -1, read", failed(api.ErrBadProgram), 11},
		{"push nan, read", failed(api.ErrBadProgram), 11},
		{"push 1, push 1, write", failed(api.ErrTooManyWrites), 12},
		{"push 5", failed(api.ErrBadProgram), 10},
		{"push 5, set 0", failed(api.ErrBadProgram), 11},
	} {
		want := told
		want.end, want.fuel = end.how, end.fuel
		behind := rights(3, 4, 5)
		if end.how == committed {
			behind = rights(9, 4, 8)
		}
		wantRun(t, end.last, c, parsed(t, ahead+end.last), nil, of(t, 3, 4, 5), want, behind...)
	}
}

// P9.1, P9.3: one that only reads changes nothing, though it commits; one that writes under that tag fails at its first write.
func TestReaders(t *testing.T) {
	wantRun(t, "a reader", small, parsed(t, "reads, push 1, read, push 0, read, sub, emit, halt"), nil, of(t, 3, 4),
		went{committed, rights(1), []touch{at(1, 4), at(0, 3)}, nil, 7}, rights(3, 4)...)
	wantRun(t, "a reader that aborts", small, parsed(t, "reads, push 1, read, emit, abort 7"), nil, of(t, 3, 4),
		went{aborted(7), rights(4), []touch{at(1, 4)}, nil, 4}, rights(3, 4)...)
	wantRun(t, "a reader that writes", small, parsed(t, "reads, push 1, read, push 0, write, halt"), nil, of(t, 3, 4),
		went{failed(api.ErrReadOnlyWrite), nil, []touch{at(1, 4)}, nil, 4}, rights(3, 4)...)
}

// wrong are programs that may not be, each in one thing; all would write first, if they ran.
func wrong(t *testing.T) map[string]api.Program {
	t.Helper()
	writes := func(tag int, last ...api.Instr) api.Program {
		return program(tag, append([]api.Instr{push(7), push(0), in(api.OpWrite, 0)}, last...)...)
	}
	long := slices.Repeat([]api.Instr{in(api.OpHalt, 0)}, 1022)
	return map[string]api.Program{
		"nothing":        {},
		"no instruction": program(api.Updates),
		"the tag 0":      writes(0, in(api.OpHalt, 0)),
		"the tag 3":      writes(3, in(api.OpHalt, 0)),
		"the tag -1":     writes(-1, in(api.OpHalt, 0)),
		"the tag 258":    writes(258, in(api.OpHalt, 0)),
		"too many":       writes(api.Updates, long...),
		"OpNone":         writes(api.Updates, in(api.OpHalt, 0), in(api.OpNone, 0)),
		"Op 21":          writes(api.Updates, in(api.OpHalt, 0), in(21, 0)),
		"Op -1":          writes(api.Updates, in(api.OpHalt, 0), in(-1, 0)),
		"a far place":    writes(api.Updates, in(api.OpHalt, 0), in(api.OpJump, 5)),
		"arg 8":          writes(api.Updates, in(api.OpHalt, 0), in(api.OpArg, 8)),
		"halt with 1":    writes(api.Updates, in(api.OpHalt, 1)),
		"halt with -0":   writes(api.Updates, api.Instr{Op: api.OpHalt, X: minus0}),
	}
}

// P9.1, P9.3: a program that may not be is run all the same, and fails ahead of its first instruction.
func TestProgramsThatMayNotBe(t *testing.T) {
	for what, p := range wrong(t) {
		want := went{end: failed(api.ErrBadProgram)}
		wantRun(t, what, small, p, []float64{1}, of(t, 3, 4), want, rights(3, 4)...)
		s := of(t, 3, 4)
		good := went{committed, nil, []touch{at(0, 3), at(1, 4)}, []touch{at(0, 7)}, 8}
		wantCalls(t, what, small, []api.Program{p, adds(t, "halt")}, []api.Call{{}, {Program: 1}, {}}, s, want, good, want)
		wantState(t, what, s, rights(7, 4)...)
	}
}

// P9.1: fuel that just suffices, and one less; with that what was done stays told, and the state as it was.
func TestFuel(t *testing.T) {
	// It counts down from its argument: 4 instructions ahead of the loop, 6 a round, 1 at the end.
	p := parsed(t, "updates, arg 0, push 1, write, arg 0, push 1, sub, dup, emit, dup, if 4, halt")
	for _, rounds := range []int{1, 2, 3, 10, 100, 169} {
		var out []float64
		for i := range rounds {
			out = append(out, float64(rounds-1-i))
		}
		needs := 4 + 6*rounds + 1
		for _, fuel := range []int{needs, needs + 1, 1024, needs - 1, needs - 2} {
			c := small
			c.Fuel = max(fuel, 1)
			want := went{committed, rights(out...), nil, []touch{at(1, float64(rounds))}, needs}
			behind := rights(3, float64(rounds))
			if fuel < needs {
				want.end, want.fuel = failed(api.ErrFuel), fuel
				behind = rights(3, 4)
			}
			wantRun(t, fmt.Sprint(rounds, " rounds, fuel ", fuel), c, p, []float64{float64(rounds)}, of(t, 3, 4), want, behind...)
		}
	}
	one := api.Config{Cells: 1, Threads: 1, Fuel: 1, Writes: 1}
	wantRun(t, "halt", one, parsed(t, "updates, halt"), nil, of(t, 3), went{end: committed, fuel: 1}, rights(3)...)
	wantRun(t, "push, halt", one, parsed(t, "updates, push 1, halt"), nil, of(t, 3), went{end: failed(api.ErrFuel), fuel: 1}, rights(3)...)
}

// P9.1: MaxFuel instructions just suffice, and no more of them.
func TestMostFuel(t *testing.T) {
	for many := 1020; many <= 1024; many++ {
		p := program(api.Updates, push(5), push(0), in(api.OpWrite, 0))
		for len(p.Code) < many-1 {
			p.Code = append(p.Code, push(1), in(api.OpDrop, 0))
		}
		p.Code = append(p.Code[:many-1], in(api.OpHalt, 0))
		wantRun(t, fmt.Sprint(many), api.Config{Cells: 1, Threads: 1, Fuel: many, Writes: 1}, p, nil, of(t, 3), went{end: committed, writes: []touch{at(0, 5)}, fuel: many}, rights(5)...)
		wantRun(t, fmt.Sprint(many), api.Config{Cells: 1, Threads: 1, Fuel: many - 1, Writes: 1}, p, nil, of(t, 3), went{end: failed(api.ErrFuel), writes: []touch{at(0, 5)}, fuel: many - 1}, rights(3)...)
	}
}

// P9.3: as many cells as may be are written, in any order, some of them twice: each has what was written last, all others what they had.
func TestMostWrites(t *testing.T) {
	for _, most := range []int{1, 2, 31, 32} {
		c := api.Config{Cells: 256, Threads: 1, Fuel: 1024, Writes: most}
		p := program(api.Updates)
		behind := bitsOf(counted(t, 256).All())
		var writes []touch
		for i := range 2 * most {
			cell := i % most * 97 % 256
			p.Code = append(p.Code, push(float64(i)), push(float64(cell)), in(api.OpWrite, 0))
			behind[cell] = right(float64(i))
			if i >= most {
				writes = append(writes, at(cell, float64(i)))
			}
		}
		full := append(p.Code, in(api.OpHalt, 0))
		wantRun(t, fmt.Sprint(most, " writes"), c, program(api.Updates, full...), nil, counted(t, 256), went{end: committed, writes: writes, fuel: 6*most + 1}, behind...)
		more := append(p.Code, push(1), push(255), in(api.OpWrite, 0), in(api.OpHalt, 0))
		wantRun(t, fmt.Sprint(most, " writes and one"), c, program(api.Updates, more...), nil, counted(t, 256), went{end: failed(api.ErrTooManyWrites), writes: writes, fuel: 6*most + 3}, bitsOf(counted(t, 256).All())...)
	}
}

// R6: NaN of any bits is one, -0 and +0 are two, whether they come as an argument, in the program or in the state.
func TestNumbers(t *testing.T) {
	for _, x := range odd() {
		p := program(api.Updates, push(x), in(api.OpEmit, 0), in(api.OpArg, 0), in(api.OpDup, 0), in(api.OpEmit, 0), push(1), in(api.OpWrite, 0), push(0), in(api.OpRead, 0), in(api.OpDup, 0), in(api.OpEmit, 0),
			push(2), in(api.OpWrite, 0), push(1), in(api.OpRead, 0), in(api.OpDrop, 0), in(api.OpHalt, 0))
		c := api.Config{Cells: 4, Threads: 1, Fuel: 20, Writes: 2}
		b := right(x)
		want := went{committed, []uint64{b, b, b}, []touch{{0, b}, {1, b}}, []touch{{1, b}, {2, b}}, 17}
		behind := []uint64{b, b, b, right(5)}
		what := fmt.Sprintf("%x", math.Float64bits(x))
		wantRun(t, what, c, p, []float64{x}, of(t, x, 4, 4, 5), want, behind...)
		s := of(t, x, 4, 4, 5)
		wantCalls(t, what, c, []api.Program{p}, []api.Call{{Args: []float64{x}}}, s, want)
		wantState(t, what, s, behind...)
	}
}

// R6: an address of -0 is the cell 0; NaN is none.
func TestAddresses(t *testing.T) {
	p := parsed(t, "updates, arg 1, arg 0, write, halt")
	wantRun(t, "-0", small, p, []float64{minus0, minus0}, of(t, 3, 4), went{end: committed, writes: []touch{at(0, minus0)}, fuel: 4}, rights(minus0, 4)...)
	for _, x := range []float64{2, -1, 0.5, math.Inf(1), math.NaN()} {
		wantRun(t, fmt.Sprint(x), small, p, []float64{x, 1}, of(t, 3, 4), went{end: failed(api.ErrBadProgram), fuel: 3}, rights(3, 4)...)
	}
}
