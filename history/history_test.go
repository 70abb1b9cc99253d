package history_test

import (
	"math"
	"slices"
	"testing"

	"beadle/api"
	"beadle/history"
)

const oneNaN = 0x7ff8000000000000

var (
	minus0    = math.Copysign(0, -1)
	committed = api.End{How: api.Committed}
	going     = api.End{}
)

func aborted(code int) api.End { return api.End{How: api.Aborted, Code: code} }

func failed(e api.Errno) api.End { return api.End{How: api.Failed, E: e} }

// odd are bits of numbers: NaNs of many kinds, the noughts, the infinities and what stands beside them, ordinary ones.
var odd = []uint64{
	0x7ff0000000000001, 0x7ff7ffffffffffff, 0x7ff8000000000000, 0x7ff8000000000001, 0x7fffffffffffffff,
	0xfff0000000000001, 0xfff7ffffffffffff, 0xfff8000000000000, 0xfff8000000000001, 0xffffffffffffffff,
	0x0000000000000000, 0x8000000000000000, 0x0000000000000001, 0x8000000000000001, 0x7fefffffffffffff, 0xffefffffffffffff,
	0x7ff0000000000000, 0xfff0000000000000, 0x3ff0000000000000, 0xbff0000000000000, 0x4008000000000000, 0x400921fb54442d18,
}

func of(bits uint64) float64 { return math.Float64frombits(bits) }

func bitsOf(x float64) uint64 { return math.Float64bits(x) }

// fixed are the bits that a number is fixed to.
func fixed(x float64) uint64 {
	if x != x {
		return oneNaN
	}
	return bitsOf(x)
}

func in(op, n int) api.Instr { return api.Instr{Op: op, N: n} }

func push(x float64) api.Instr { return api.Instr{Op: api.OpPush, X: x} }

var (
	read  = in(api.OpRead, 0)
	write = in(api.OpWrite, 0)
	emit  = in(api.OpEmit, 0)
	add   = in(api.OpTwo, api.TwoAdd)
	halt  = in(api.OpHalt, 0)
)

func program(tag int, code ...api.Instr) api.Program { return api.Program{Tag: tag, Code: code} }

func call(program int, args ...float64) api.Call { return api.Call{Program: program, Args: args} }

func at(cell int, x float64) api.Touch { return api.Touch{Cell: cell, X: x} }

// adds adds 1 to cell 0, tells emits it: the programs of the chapter's examples.
func adds() api.Program {
	return program(api.Updates, push(0), read, push(1), add, push(0), write, halt)
}

func tells() api.Program { return program(api.Reads, push(0), read, emit, halt) }

// chapters is the setup of the chapter's examples.
func chapters() api.Setup {
	return api.Setup{Config: api.Config{Cells: 1, Threads: 2, Fuel: 20, Writes: 1}, Start: []float64{3}, Programs: []api.Program{adds(), tells()}}
}

// added is the n-th updater of the chapter's setup, whose ticket is n - 1, if all of them add.
func added(n int) api.Deed {
	had := float64(2 + n)
	return api.Deed{Tag: api.Updates, Mark: n - 1, Number: n, Reads: []api.Touch{at(0, had)}, Writes: []api.Touch{at(0, had+1)}, End: committed}
}

// told is a reader of the chapter's setup behind so many that have added.
func told(mark int) api.Deed {
	x := float64(3 + mark)
	return api.Deed{Program: 1, Tag: api.Reads, Mark: mark, Reads: []api.Touch{at(0, x)}, Out: []float64{x}, End: committed}
}

// updater and reader are deeds of which but the place counts.
func updater(mark, number int) api.Deed {
	return api.Deed{Tag: api.Updates, Mark: mark, Number: number}
}

func reader(mark int) api.Deed { return api.Deed{Tag: api.Reads, Mark: mark} }

// within is a deed with the steps with which it began and ended.
func within(d api.Deed, begun, ended int) api.Deed {
	d.Begun, d.Ended = begun, ended
	return d
}

// behind is the deed behind a change.
func behind(d api.Deed, change func(d *api.Deed)) api.Deed {
	d = ownDeed(d)
	change(&d)
	return d
}

// own is a list in memory of its own.
func own[T any](l []T) []T { return append(make([]T, 0, len(l)), l...) }

func ownDeed(d api.Deed) api.Deed {
	d.Args, d.Reads, d.Writes, d.Out = own(d.Args), own(d.Reads), own(d.Writes), own(d.Out)
	return d
}

func ownDeeds(l []api.Deed) []api.Deed {
	all := make([]api.Deed, len(l))
	for i, d := range l {
		all[i] = ownDeed(d)
	}
	return all
}

func sameNumbers(a, b []float64) bool {
	return slices.EqualFunc(a, b, func(x, y float64) bool { return bitsOf(x) == bitsOf(y) })
}

func wantOrder(t *testing.T, what string, l []api.Deed, places ...int) {
	t.Helper()
	if got, e := history.Order(l); !slices.Equal(got, places) || e != api.OK {
		t.Errorf("%s: Order: %v, %d, want %v", what, got, e, places)
	}
}

func wantTimely(t *testing.T, what string, l []api.Deed, place int) {
	t.Helper()
	if got, e := history.Timely(l); got != place || e != api.OK {
		t.Errorf("%s: Timely: %d, %d, want %d", what, got, e, place)
	}
}

// wantTold: this deed is not explained, so that there is nothing final.
func wantTold(t *testing.T, what string, s api.Setup, l []api.Deed, place int) {
	t.Helper()
	if got, e := history.Explain(s, l); got != place || e != api.OK {
		t.Errorf("%s: Explain: %d, %d, want %d", what, got, e, place)
	}
	wantNoFinal(t, what, s, l, api.ErrHistory)
}

// wantExplained: all deeds are, and these are the numbers behind them, bit by bit.
func wantExplained(t *testing.T, what string, s api.Setup, l []api.Deed, final ...float64) {
	t.Helper()
	if got, e := history.Explain(s, l); got != -1 || e != api.OK {
		t.Errorf("%s: Explain: %d, %d, want -1", what, got, e)
	}
	if got, e := history.Final(s, l); !sameNumbers(got, final) || e != api.OK {
		t.Errorf("%s: Final: %v, %d, want %v", what, got, e, final)
	}
}

func wantNoFinal(t *testing.T, what string, s api.Setup, l []api.Deed, want api.Errno) {
	t.Helper()
	if got, e := history.Final(s, l); len(got) != 0 || e != want {
		t.Errorf("%s: Final: %v, %d, want the error %d", what, got, e, want)
	}
}

// wantNoReplay: Explain and Final have this error.
func wantNoReplay(t *testing.T, what string, s api.Setup, l []api.Deed, want api.Errno) {
	t.Helper()
	if got, e := history.Explain(s, l); got != 0 || e != want {
		t.Errorf("%s: Explain: %d, %d, want the error %d", what, got, e, want)
	}
	wantNoFinal(t, what, s, l, want)
}

// wantMayNotBe: none of the calls has anything to tell of such deeds.
func wantMayNotBe(t *testing.T, what string, l []api.Deed) {
	t.Helper()
	if got, e := history.Order(l); len(got) != 0 || e != api.ErrHistory {
		t.Errorf("%s: Order: %v, %d, want ErrHistory", what, got, e)
	}
	if got, e := history.Timely(l); got != 0 || e != api.ErrHistory {
		t.Errorf("%s: Timely: %d, %d, want ErrHistory", what, got, e)
	}
	wantNoReplay(t, what, chapters(), l, api.ErrHistory)
}

// The chapter's first three examples.
func TestExamples(t *testing.T) {
	s := chapters()
	l := []api.Deed{
		{Program: 1, Tag: api.Reads, Mark: 1, Reads: []api.Touch{at(0, 4)}},
		added(1),
		told(0),
	}
	wantOrder(t, "the first", l, 2, 1, 0)
	wantExplained(t, "the first", s, l, 4)
	l[0].Reads[0].X = 5
	wantTold(t, "the second", s, l, 0)
	l[0].Reads[0].X = 4
	l[1].Number = 2
	wantMayNotBe(t, "the Number 2", l)
	l[1].Number = 1
	l[0].Mark = 2
	wantMayNotBe(t, "the Mark 2", l)
	l[0].Mark = 1
	l[0].Ended, l[1].Begun = 5, 6
	wantTimely(t, "the third", l, 1)
}

// The chapter's fourth example.
func TestExampleOfOneThatHadEnded(t *testing.T) {
	l := []api.Deed{
		within(behind(updater(0, 0), func(d *api.Deed) { d.End = aborted(1) }), 1, 5),
		within(reader(0), 3, 0),
		within(reader(0), 7, 0),
	}
	wantOrder(t, "the fourth", l, 1, 0, 2)
}

// rule is a row of numbers that looks as if thrown.
type rule uint64

func (r *rule) below(n int) int {
	*r = *r*6364136223846793005 + 1442695040888963407
	return int(uint64(*r>>33) % uint64(n))
}
