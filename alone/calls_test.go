package alone_test

import (
	"fmt"
	"math"
	"slices"
	"testing"

	"beadle/alone"
	"beadle/api"
	"beadle/state"
)

// bump is a program that adds its argument to the cell 0, and emits what it was.
func bump(t *testing.T) api.Program {
	t.Helper()
	return parsed(t, "updates, push 0, read, dup, emit, arg 0, add, push 0, write, halt")
}

func bumped(was, by float64) went {
	return went{committed, rights(was), []touch{at(0, was)}, []touch{at(0, was+by)}, 9}
}

// P9.2: nothing to do is done, over programs or none.
func TestCallsOfNothing(t *testing.T) {
	for _, l := range [][]api.Program{nil, {}, {bump(t)}, make([]api.Program, 64)} {
		for _, calls := range [][]api.Call{nil, {}, make([]api.Call, 0, 4)} {
			s := of(t, 3, 4)
			wantCalls(t, fmt.Sprint("no calls of ", len(l)), small, l, calls, s)
			wantState(t, "no calls", s, rights(3, 4)...)
		}
	}
	for _, l := range [][]api.Program{nil, {}} {
		for _, n := range []int{-1, 0, 1} {
			wantNoCalls(t, "a call of no programs", small, l, []api.Call{{Program: n}}, of(t, 3, 4), api.ErrArg)
		}
	}
}

// P9.2: as many programs as may be, each by its number, and more, though nobody calls them.
func TestCallsOfManyPrograms(t *testing.T) {
	var l []api.Program
	for i := range 66 {
		l = append(l, program(api.Reads, push(float64(i)), in(api.OpEmit, 0), in(api.OpHalt, 0)))
	}
	for _, many := range []int{1, 2, 63, 64} {
		var calls []api.Call
		var want []went
		for i := range many {
			n := (i*5 + 3) % many
			calls = append(calls, api.Call{Program: n})
			want = append(want, went{end: committed, out: rights(float64(n)), fuel: 3})
		}
		wantCalls(t, fmt.Sprint(many, " programs"), small, l[:many], calls, of(t, 3, 4), want...)
	}
	for _, many := range []int{65, 66} {
		wantNoCalls(t, fmt.Sprint(many, " programs"), small, l[:many], []api.Call{{}}, of(t, 3, 4), api.ErrMany)
		wantNoCalls(t, fmt.Sprint(many, " programs"), small, l[:many], nil, of(t, 3, 4), api.ErrMany)
	}
	wantNoCalls(t, "far more programs", small, make([]api.Program, 1<<16), nil, of(t, 3, 4), api.ErrMany)
}

// P9.2: as many calls as may be, and more.
func TestManyCalls(t *testing.T) {
	l := []api.Program{bump(t)}
	for _, many := range []int{1, 2, 64, 65, 511, 512} {
		var want []went
		for i := range many {
			want = append(want, bumped(3+2*float64(i), 2))
		}
		s := of(t, 3, 4)
		wantCalls(t, fmt.Sprint(many, " calls"), small, l, slices.Repeat([]api.Call{{Args: []float64{2}}}, many), s, want...)
		wantState(t, fmt.Sprint(many, " calls"), s, rights(3+2*float64(many), 4)...)
	}
	for _, many := range []int{513, 514, 1024, 1 << 16} {
		wantNoCalls(t, fmt.Sprint(many, " calls"), small, l, slices.Repeat([]api.Call{{Args: []float64{2}}}, many), of(t, 3, 4), api.ErrMany)
	}
}

// P9.2: the numbers of programs that there are, and of those that there are not, wherever the call stands.
func TestCallsOfWhichProgram(t *testing.T) {
	l := []api.Program{bump(t), parsed(t, "updates, push 1, push 1, write, halt"), parsed(t, "updates, push 2, push 1, write, halt")}
	s := of(t, 3, 4)
	wantCalls(t, "the last, the first", small, l, []api.Call{{Program: 2}, {Program: 0}}, s, went{end: committed, writes: []touch{at(1, 2)}, fuel: 4}, bumped(3, 0))
	wantState(t, "the last, the first", s, rights(3, 2)...)
	for _, n := range []int{math.MinInt, -1 << 32, -3, -1, 3, 4, 64, 1 << 32, math.MaxInt} {
		for place := range 4 {
			calls := slices.Insert([]api.Call{{}, {Program: 1}, {Program: 2}}, place, api.Call{Program: n})
			wantNoCalls(t, fmt.Sprint("the program ", n, " at ", place), small, l, calls, of(t, 3, 4), api.ErrArg)
		}
	}
}

// P9.2: as many arguments as may be, and more, wherever the call stands.
func TestCallsOfArgs(t *testing.T) {
	l := []api.Program{bump(t), parsed(t, "reads, arg 7, emit, halt")}
	s := of(t, 3, 4)
	wantCalls(t, "8 args", small, l, []api.Call{{Program: 1, Args: numbers(8)}, {Args: numbers(8)}, {Program: 1, Args: numbers(7)}}, s,
		went{end: committed, out: rights(7.5), fuel: 3}, bumped(3, 0.5), went{end: committed, out: rights(0), fuel: 3})
	wantState(t, "8 args", s, rights(3.5, 4)...)
	for _, many := range []int{9, 10, 1 << 16} {
		for place := range 4 {
			calls := slices.Insert([]api.Call{{Args: numbers(1)}, {Args: numbers(8)}, {Program: 1}}, place, api.Call{Args: make([]float64, many)})
			wantNoCalls(t, fmt.Sprint(many, " args at ", place), small, l, calls, of(t, 3, 4), api.ErrArg)
		}
	}
}

// P9.2, R2: of several errors the one that the promise names first: the config and the state, then how many, then the calls.
func TestWhichErrorComesFirst(t *testing.T) {
	none, two, three := api.Config{}, of(t, 3, 4), of(t, 3, 4, 5)
	few, many := []api.Program{bump(t)}, slices.Repeat([]api.Program{bump(t)}, 65)
	bad := []api.Call{{}, {Program: -1, Args: numbers(9)}}
	good := []api.Call{{}, {}}
	for _, one := range []struct {
		what  string
		c     api.Config
		l     []api.Program
		calls []api.Call
		s     *state.State
		want  api.Errno
	}{
		{"a config and programs", none, many, good, two, api.ErrArg},
		{"a config and calls", none, few, slices.Repeat(good, 257), two, api.ErrArg},
		{"a config, programs and a call", none, many, bad, two, api.ErrArg},
		{"a state and programs", small, many, good, three, api.ErrArg},
		{"a state and calls", small, few, slices.Repeat(good, 257), three, api.ErrArg},
		{"a state, many calls that are wrong", small, few, slices.Repeat(bad, 257), three, api.ErrArg},
		{"programs and a call", small, many, bad, two, api.ErrMany},
		{"programs and calls", small, many, slices.Repeat(good, 257), two, api.ErrMany},
		{"calls, some of them wrong", small, few, slices.Repeat(bad, 257), two, api.ErrMany},
		{"calls, the last of them wrong", small, few, append(slices.Repeat(good, 256), api.Call{Program: 1}), two, api.ErrMany},
		{"calls of no programs", small, nil, slices.Repeat(good, 257), two, api.ErrMany},
		{"a call", small, few, bad, two, api.ErrArg},
	} {
		wantNoCalls(t, one.what, one.c, one.l, one.calls, one.s, one.want)
	}
}

// P9.2, P9.3: a call reads what those ahead of it wrote, if they committed, and nothing of the others.
func TestCallsReadWhatWasWritten(t *testing.T) {
	l := []api.Program{
		bump(t),
		parsed(t, "updates, push 100, push 0, write, push 100, push 1, write, abort 6"),
		parsed(t, "updates, push 200, push 0, write, push 1, drop, drop, halt"),
		parsed(t, "reads, push 0, read, push 1, read, emit, emit, halt"),
		program(9, push(1), push(0), in(api.OpWrite, 0), in(api.OpHalt, 0)),
		parsed(t, "updates, push 0, read, push 1, write, halt"),
	}
	abort := went{end: aborted(6), writes: []touch{at(0, 100), at(1, 100)}, fuel: 7}
	fail := went{end: failed(api.ErrStack), writes: []touch{at(0, 200)}, fuel: 6}
	look := func(x, y float64) went {
		return went{committed, rights(y, x), []touch{at(0, x), at(1, y)}, nil, 7}
	}
	s := of(t, 3, 4)
	wantCalls(t, "calls", small, l, []api.Call{
		{Program: 3}, {Args: []float64{5}}, {Program: 3}, {Program: 1}, {Program: 3}, {Program: 2}, {Program: 4},
		{Args: []float64{-1}}, {Program: 5}, {Program: 3},
	}, s,
		look(3, 4), bumped(3, 5), look(8, 4), abort, look(8, 4), fail, went{end: failed(api.ErrBadProgram)},
		bumped(8, -1), went{committed, nil, []touch{at(0, 7)}, []touch{at(1, 7)}, 5}, look(7, 7))
	wantState(t, "calls", s, rights(7, 7)...)
}

// P9.2: each call has the config's fuel and writes for itself.
func TestCallsShareNoFuel(t *testing.T) {
	c := api.Config{Cells: 2, Threads: 1, Fuel: 9, Writes: 1}
	s := of(t, 3, 4)
	other := parsed(t, "updates, push 0, push 1, write, halt")
	wantCalls(t, "three calls", c, []api.Program{bump(t), other}, []api.Call{{Args: []float64{1}}, {Program: 1}, {Args: []float64{1}}}, s,
		bumped(3, 1), went{end: committed, writes: []touch{at(1, 0)}, fuel: 4}, bumped(4, 1))
	wantState(t, "three calls", s, rights(5, 0)...)
}

// spoil lays another thing wherever a list, or its spare room, has one.
func spoil[T any](l []T, x T) {
	l = l[:cap(l)]
	for i := range l {
		l[i] = x
	}
}

// lists are what spoils each list of a result by itself.
func lists(r api.Result) []func() {
	return []func(){
		func() { spoil(r.Out, 99) },
		func() { spoil(r.Reads, api.Touch{Cell: 99, X: 99}) },
		func() { spoil(r.Writes, api.Touch{Cell: 99, X: 99}) },
	}
}

// without is a result but for one of its lists, so that the others can be told to stand.
func without(w went, list int) went {
	switch list {
	case 0:
		w.out = nil
	case 1:
		w.reads = nil
	case 2:
		w.writes = nil
	}
	return w
}

// R4: each list of each result is the caller's own: no other one sees what is done to it, nor the state, nor a later call.
func TestResultsAreTheCallersOwn(t *testing.T) {
	l := []api.Program{bump(t), parsed(t, "reads, push 0, read, dup, emit, dup, emit, emit, push 1, read, emit, halt")}
	calls := []api.Call{{Args: []float64{1}}, {Program: 1}, {Args: []float64{2}}}
	look := went{committed, rights(4, 4, 4, 4), []touch{at(0, 4), at(1, 4)}, nil, 11}
	want := []went{bumped(3, 1), look, bumped(4, 2)}
	for spoiled := range calls {
		for list := range 3 {
			s := of(t, 3, 4)
			got, e := alone.Calls(small, l, calls, s)
			wantErrno(t, "Calls", e, api.OK)
			lists(got[spoiled])[list]()
			for i, r := range got {
				has, should := wentBy(r), want[i]
				if i == spoiled {
					has, should = without(has, list), without(should, list)
				}
				wantWent(t, fmt.Sprint("result ", i, ", the list ", list, " of ", spoiled, " spoiled"), has, should)
			}
			wantState(t, "spoiled", s, rights(6, 4)...)
			spoil(got, api.Result{Fuel: 99})
			wantCalls(t, "the same once more", small, l, calls, of(t, 3, 4), want...)
			wantState(t, "spoiled", s, rights(6, 4)...)
		}
	}
}

// R4: what Run told stands, whatever is run then on the same state, and the state does not see what is done to it.
func TestResultOfRunIsTheCallersOwn(t *testing.T) {
	s := of(t, 3, 4)
	first, _ := alone.Run(small, bump(t), []float64{1}, s)
	second, _ := alone.Run(small, bump(t), []float64{1}, s)
	for _, spoils := range lists(second) {
		spoils()
	}
	wantRun(t, "a third run", small, bump(t), []float64{1}, s, bumped(5, 1), rights(6, 4)...)
	wantResult(t, "the first one", first, bumped(3, 1))
}

// handed is what is handed in to Calls, each list with spare room.
type handed struct {
	code     [2][]api.Instr
	programs []api.Program
	args     [2][]float64
	calls    []api.Call
}

func handing() handed {
	other := math.Float64frombits(0xfff0000000000001)
	var h handed
	h.code[0] = []api.Instr{in(api.OpArg, 0), push(0), in(api.OpWrite, 0), push(other), in(api.OpEmit, 0), in(api.OpArg, 2), in(api.OpEmit, 0), in(api.OpHalt, 0), {Op: 99, N: -1, X: other}, {}}
	h.code[1] = []api.Instr{push(1), in(api.OpRead, 0), in(api.OpEmit, 0), in(api.OpAbort, 3), {Op: 98, N: -2, X: other}}
	h.programs = []api.Program{{Tag: api.Updates, Code: h.code[0][:8]}, {Tag: api.Reads, Code: h.code[1][:4]}, {Tag: -7, Code: h.code[1]}}
	h.args = [2][]float64{{other, 2, 3, other, other}, {1, other, 5}}
	h.calls = []api.Call{{Program: 0, Args: h.args[0][:2]}, {Program: 1, Args: h.args[1][:1]}, {Program: 0, Args: h.args[1][:3]}, {Program: -8, Args: h.args[0]}}
	return h
}

// told is all of it, spare room too, numbers by their bits.
func (h handed) told() string {
	var told string
	for _, code := range h.code {
		for _, i := range code {
			told += fmt.Sprintf("%d %d %x, ", i.Op, i.N, math.Float64bits(i.X))
		}
	}
	for _, p := range h.programs {
		told += fmt.Sprintf("%d of %d, ", p.Tag, len(p.Code))
	}
	for _, args := range h.args {
		told += fmt.Sprintf("%x, ", bitsOf(args))
	}
	for _, c := range h.calls {
		told += fmt.Sprintf("%d by %d, ", c.Program, len(c.Args))
	}
	return told
}

// R4: what is handed in is not changed, the spare room behind the lists neither, nor kept.
func TestHandedInIsNeitherChangedNorKept(t *testing.T) {
	h := handing()
	s := of(t, 3, 4)
	got, e := alone.Calls(small, h.programs[:2], h.calls[:3], s)
	wantErrno(t, "Calls", e, api.OK)
	r, e := alone.Run(small, h.programs[0], h.args[0][:2], s)
	wantErrno(t, "Run", e, api.OK)
	if h.told() != handing().told() {
		t.Errorf("what was handed in is %s", h.told())
	}
	for i := range 2 {
		spoil(h.code[i], in(api.OpAbort, 7))
		spoil(h.args[i], -1)
	}
	spoil(h.programs, api.Program{})
	spoil(h.calls, api.Call{})
	nan := math.NaN()
	first := went{end: committed, out: rights(nan, 0), writes: []touch{at(0, nan)}, fuel: 8}
	want := []went{first, {aborted(3), rights(4), []touch{at(1, 4)}, nil, 4}, {end: committed, out: rights(nan, 5), writes: []touch{at(0, 1)}, fuel: 8}, first}
	for i, one := range append(got, r) {
		wantResult(t, fmt.Sprint("result ", i), one, want[i])
	}
	wantState(t, "the state", s, oneNaN, right(4))
}

// R5: calls on one state are not seen by another one, a clone or one of the same numbers.
func TestStatesAreApart(t *testing.T) {
	s, same := of(t, 3, 4), of(t, 3, 4)
	other := s.Clone()
	wantRun(t, "the one", small, bump(t), []float64{1}, s, bumped(3, 1), rights(4, 4)...)
	wantState(t, "the clone", other, rights(3, 4)...)
	wantState(t, "one of the same numbers", same, rights(3, 4)...)
	wantRun(t, "the clone", small, bump(t), []float64{7}, other, bumped(3, 7), rights(10, 4)...)
	wantState(t, "the one", s, rights(4, 4)...)
}
