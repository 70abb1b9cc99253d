package history_test

import (
	"fmt"
	"math"
	"slices"
	"testing"

	"beadle/alone"
	"beadle/api"
	"beadle/state"
)

// P17.2, P17.3: configs at each of their limits, and past them, with as many numbers at first as there are cells, and one more.
func TestConfigs(t *testing.T) {
	most := [4]int{256, 8, 1024, 32}
	for i := range most {
		for _, n := range []int{math.MinInt, -most[i], -1, 0, 1, 2, most[i] - 1, most[i], most[i] + 1, 1 << 32, 1<<32 + 1, math.MaxInt} {
			for _, c := range [][4]int{{1, 1, 1, 1}, most} {
				c[i] = n
				s := api.Setup{Config: api.Config{Cells: c[0], Threads: c[1], Fuel: c[2], Writes: c[3]}}
				ofConfig(t, s, n >= 1 && n <= most[i])
			}
		}
	}
	ofConfig(t, api.Setup{}, false)
}

func ofConfig(t *testing.T, s api.Setup, mayBe bool) {
	t.Helper()
	what := fmt.Sprintf("%+v", s.Config)
	if !mayBe {
		wantNoReplay(t, what, s, nil, api.ErrArg)
		wantNoReplay(t, what+", deeds that may not be", s, []api.Deed{reader(-2)}, api.ErrArg)
		wantNoReplay(t, what+", one that is not explained", s, []api.Deed{reader(0)}, api.ErrArg)
		return
	}
	cells := s.Config.Cells
	for many := range cells + 1 {
		s.Start = append(make([]float64, 0, many), numbers(many)...)
		wantExplained(t, what, s, nil, append(numbers(many), make([]float64, cells-many)...)...)
		if many == 3 {
			break
		}
	}
	s.Start = numbers(cells)
	wantExplained(t, what+", all", s, nil, numbers(cells)...)
	for _, more := range []int{1, 2, 256, 1 << 16} {
		s.Start = numbers(cells + more)
		wantNoReplay(t, fmt.Sprint(what, ", more: ", more), s, nil, api.ErrArg)
		wantNoReplay(t, what+", more, deeds that may not be", s, []api.Deed{reader(-2)}, api.ErrArg)
	}
}

func numbers(many int) []float64 {
	xs := make([]float64, many)
	for i := range xs {
		xs[i] = float64(i) + 0.5
	}
	return xs
}

// P17.2: deeds that may not be are told as such, though one of them is not explained; nothing else of a setup is looked at.
func TestWhatIsLookedAt(t *testing.T) {
	s := chapters()
	l := []api.Deed{told(0), reader(1)}
	l[0].Out[0] = 9
	wantNoReplay(t, "both", s, l, api.ErrHistory)
	wantTold(t, "but not explained", s, l[:1], 0)
	s.Programs = slices.Repeat([]api.Program{{}, tells()}, 100)
	s.Threads = [][]api.Call{{call(-1)}, {call(500, make([]float64, 9)...)}, make([]api.Call, 65), nil}
	one := told(0)
	one.Program = 199
	wantExplained(t, "many programs", s, []api.Deed{one}, 3)
	one.Program = 200
	wantTold(t, "the program behind the last", s, []api.Deed{one}, 0)
}

// P17.2, R6: the numbers at first, of all kinds of bits, and +0 beyond.
func TestStart(t *testing.T) {
	for _, bits := range odd {
		x := of(bits)
		s := api.Setup{Config: api.Config{Cells: 3, Threads: 1, Fuel: 20, Writes: 1}, Start: []float64{1, x}, Programs: []api.Program{program(api.Reads, push(1), read, emit, push(2), read, emit, halt)}}
		d := api.Deed{Tag: api.Reads, Reads: []api.Touch{at(1, x), at(2, 0)}, Out: []float64{x, 0}, End: committed}
		wantExplained(t, fmt.Sprintf("%x", bits), s, []api.Deed{d}, 1, of(fixed(x)), 0)
		wantTold(t, fmt.Sprintf("%x, -0 beyond", bits), s, []api.Deed{behind(d, func(d *api.Deed) { d.Reads[1].X = minus0 })}, 0)
	}
}

// P17.2: a deed of a program that is none of the setup's, or of another tag than the program's, is not explained.
func TestPrograms(t *testing.T) {
	s := chapters()
	for _, number := range []int{math.MinInt, -1, 2, 3, 64, math.MaxInt} {
		for _, d := range []api.Deed{told(0), added(1), reader(0), updater(0, 0), {}, {Tag: 3}} {
			d.Program = number
			wantTold(t, fmt.Sprint("the program ", number), s, []api.Deed{d}, 0)
		}
	}
	s.Programs = nil
	wantTold(t, "no programs", s, []api.Deed{told(0)}, 0)
	for _, tag := range []int{api.Reads, api.Updates, 0, 3, -1, math.MinInt, math.MaxInt} {
		for _, its := range []int{api.Reads, api.Updates, 0, 3, -1, math.MinInt, math.MaxInt} {
			s.Programs = []api.Program{program(its, push(0), read, halt)}
			d := api.Deed{Tag: tag}
			what := fmt.Sprint("the tag ", tag, " of a program with ", its)
			if tag != its {
				wantTold(t, what, s, []api.Deed{d}, 0)
				d.Reads, d.End = []api.Touch{at(0, 3)}, committed
				wantTold(t, what+", committed", s, []api.Deed{d}, 0)
				continue
			}
			wantExplained(t, what, s, []api.Deed{d}, 3)
			if tag != api.Reads && tag != api.Updates {
				d.End = failed(api.ErrBadProgram)
				wantExplained(t, what+", failed", s, []api.Deed{d}, 3)
				d.Reads = []api.Touch{at(0, 3)}
				wantTold(t, what+", with a read", s, []api.Deed{d}, 0)
			}
		}
	}
}

// P17.2: as many Args as may be, each at its place and fixed, and one more.
func TestArgs(t *testing.T) {
	s := chapters()
	s.Programs = []api.Program{program(api.Reads, in(api.OpArg, 0), emit, in(api.OpArg, 7), emit, halt)}
	for many := range 12 {
		d := api.Deed{Tag: api.Reads, Args: numbers(many), Out: []float64{0, 0}, End: committed}
		if many > 0 {
			d.Out[0] = 0.5
		}
		if many > 7 {
			d.Out[1] = 7.5
		}
		what := fmt.Sprint(many, " Args")
		if many > 8 {
			wantTold(t, what, s, []api.Deed{d}, 0)
			wantTold(t, what+", going", s, []api.Deed{{Tag: api.Reads, Args: numbers(many)}}, 0)
			continue
		}
		wantExplained(t, what, s, []api.Deed{d}, 3)
		wantTold(t, what+", another one", s, []api.Deed{behind(d, func(d *api.Deed) { d.Args = append([]float64{77}, d.Args...)[:max(many, 1)] })}, 0)
	}
	for _, bits := range odd {
		d := api.Deed{Tag: api.Reads, Args: []float64{of(bits)}, Out: []float64{of(bits), 0}, End: committed}
		wantExplained(t, fmt.Sprintf("the argument %x", bits), s, []api.Deed{d}, 3)
		d.Out[0] = of(fixed(of(bits)))
		wantExplained(t, fmt.Sprintf("the argument %x, fixed", bits), s, []api.Deed{d}, 3)
	}
}

// busy is a setup whose cells have -0, NaN and 3; each of its programs reads cells, one twice, and emits them; the updaters write two cells, one twice, and read it. One program for each end: Committed, Aborted, Failed.
func busy() api.Setup {
	reads := []api.Instr{push(0), read, emit, push(1), read, emit, push(2), read, emit, push(0), read, emit}
	writes := []api.Instr{push(minus0), push(2), write, in(api.OpArg, 0), push(0), write, push(2), read, emit, push(math.NaN()), push(2), write}
	s := api.Setup{Config: api.Config{Cells: 3, Threads: 2, Fuel: 60, Writes: 2}, Start: []float64{minus0, math.NaN(), 3}}
	for _, last := range [][]api.Instr{{halt}, {in(api.OpAbort, 7)}, {in(api.OpDrop, 0)}} {
		s.Programs = append(s.Programs, program(api.Reads, slices.Concat(reads, last)...), program(api.Updates, slices.Concat(reads, writes, last)...))
	}
	return s
}

// The programs of busy.
const (
	readsOn = iota
	writesOn
	readsTillAbort
	writesTillAbort
	readsTillError
	writesTillError
)

// aloneDeed is a deed of a call that ran alone over the numbers at first.
func aloneDeed(t *testing.T, s api.Setup, number int, args ...float64) api.Deed {
	t.Helper()
	over, _ := state.New(s.Config.Cells)
	for cell, x := range s.Start {
		over.Set(cell, x)
	}
	r, e := alone.Run(s.Config, s.Programs[number], args, over)
	if e != api.OK {
		t.Fatalf("alone: %d", e)
	}
	d := api.Deed{Program: number, Tag: s.Programs[number].Tag, Args: args, Reads: r.Reads, Writes: r.Writes, Out: r.Out, End: r.End}
	if d.Tag == api.Updates && d.End == committed {
		d.Number = 1
	}
	return d
}

// changed is a deed with one change, and whether but the last ones of Reads or Out are left out by it, or but Writes are another.
type changed struct {
	what              string
	d                 api.Deed
	shorter, ofWrites bool
}

// changes is each deed that has one number, one cell, one bit, one more or one fewer of Reads, Writes or Out than this one.
func changes(d api.Deed) []changed {
	var all []changed
	note := func(what string, shorter, ofWrites bool, change func(d *api.Deed)) {
		all = append(all, changed{what, behind(d, change), shorter, ofWrites})
	}
	touches := func(name string, ofWrites bool, of func(d *api.Deed) *[]api.Touch) {
		l := *of(&d)
		for i, one := range l {
			for _, x := range otherNumbers(one.X) {
				note(fmt.Sprint(name, i, " is ", x), false, ofWrites, func(d *api.Deed) { (*of(d))[i].X = x })
			}
			for _, cell := range []int{one.Cell + 1, one.Cell - 1, one.Cell ^ 256, math.MinInt, math.MaxInt} {
				note(fmt.Sprint(name, i, " is of ", cell), false, ofWrites, func(d *api.Deed) { (*of(d))[i].Cell = cell })
			}
			note(fmt.Sprint(name, i, " fewer"), i == len(l)-1, ofWrites, func(d *api.Deed) { *of(d) = slices.Delete(*of(d), i, i+1) })
		}
		for i := range len(l) + 1 {
			note(fmt.Sprint(name, i, " more"), false, ofWrites, func(d *api.Deed) { *of(d) = slices.Insert(*of(d), i, at(1, 77)) })
		}
		note(name+" none", true, ofWrites, func(d *api.Deed) { *of(d) = nil })
	}
	touches("Reads ", false, func(d *api.Deed) *[]api.Touch { return &d.Reads })
	touches("Writes ", true, func(d *api.Deed) *[]api.Touch { return &d.Writes })
	for i, x := range d.Out {
		for _, y := range otherNumbers(x) {
			note(fmt.Sprint("Out ", i, " is ", y), false, false, func(d *api.Deed) { d.Out[i] = y })
		}
		note(fmt.Sprint("Out ", i, " fewer"), i == len(d.Out)-1, false, func(d *api.Deed) { d.Out = slices.Delete(d.Out, i, i+1) })
	}
	for i := range len(d.Out) + 1 {
		note(fmt.Sprint("Out ", i, " more"), false, false, func(d *api.Deed) { d.Out = slices.Insert(d.Out, i, 77) })
	}
	note("Out none", true, false, func(d *api.Deed) { d.Out = nil })
	return all
}

// otherNumbers are numbers that are not the same as x, some of them but by a bit.
func otherNumbers(x float64) []float64 {
	var all []float64
	for _, y := range []float64{of(bitsOf(x) ^ 1<<63), of(bitsOf(x) ^ 1), of(bitsOf(x) ^ 1<<62), x + 1, 0, minus0, math.Inf(1), math.NaN()} {
		if fixed(x) != fixed(y) {
			all = append(all, y)
		}
	}
	return all
}

// P17.2: deeds that are over, of each program and end: explained just if all is as it is alone.
func TestDeedsThatAreOver(t *testing.T) {
	s := busy()
	for number := range s.Programs {
		d := aloneDeed(t, s, number, 5)
		what := fmt.Sprint("the program ", number)
		explained(t, what, s, d)
		for _, c := range changes(d) {
			if sameTouches(c.d.Reads, d.Reads) && sameTouches(c.d.Writes, d.Writes) && sameFixed(c.d.Out, d.Out) {
				explained(t, what+", "+c.what, s, c.d)
				continue
			}
			wantTold(t, what+", "+c.what, s, []api.Deed{c.d}, 0)
		}
		for _, end := range otherEnds(d.End) {
			if d.Number > 0 && end == going {
				continue
			}
			if end == going {
				// Then its Reads and Out are the first ones all the same, and its Writes are not looked at.
				explained(t, what+", going", s, behind(d, func(d *api.Deed) { d.End = going }))
				continue
			}
			wantTold(t, fmt.Sprintf("%s, %+v", what, end), s, []api.Deed{behind(d, func(d *api.Deed) { d.End = end })}, 0)
		}
	}
}

// explained: the deed is explained, and laid just if it has a Number.
func explained(t *testing.T, what string, s api.Setup, d api.Deed) {
	t.Helper()
	final := []float64{minus0, of(oneNaN), 3}
	if d.Number > 0 {
		final[0], final[2] = d.Args[0], of(oneNaN)
	}
	wantExplained(t, what, s, []api.Deed{d}, final...)
}

// otherEnds are ends, such as may be and such as may not, that are not that one.
func otherEnds(end api.End) []api.End {
	var all []api.End
	for _, how := range []int{api.Going, api.Committed, api.Aborted, api.Failed, 4, -1, math.MaxInt} {
		for _, code := range []int{0, 7, 8} {
			for _, e := range []api.Errno{api.OK, api.ErrStack, api.ErrFuel} {
				if other := (api.End{How: how, Code: code, E: e}); other != end {
					all = append(all, other)
				}
			}
		}
	}
	return all
}

// P17.2: deeds that go on without a Number: explained just if their Reads and Out are the first ones of what they are alone; Writes may be any.
func TestDeedsThatGoOn(t *testing.T) {
	s := busy()
	for number := range s.Programs {
		whole := aloneDeed(t, s, number, 5)
		whole.Number, whole.End = 0, going
		for reads := range len(whole.Reads) + 1 {
			for outs := range len(whole.Out) + 1 {
				d := behind(whole, func(d *api.Deed) { d.Reads, d.Out = d.Reads[:reads], d.Out[:outs] })
				what := fmt.Sprint("the program ", number, ", ", reads, " and ", outs)
				explained(t, what, s, d)
				if reads != outs && reads > 0 {
					continue
				}
				goesOn(t, what, s, d, whole)
			}
		}
	}
}

func goesOn(t *testing.T, what string, s api.Setup, d, whole api.Deed) {
	t.Helper()
	for _, c := range changes(d) {
		begins := len(c.d.Reads) <= len(whole.Reads) && len(c.d.Out) <= len(whole.Out) &&
			sameTouches(c.d.Reads, whole.Reads[:len(c.d.Reads)]) && sameFixed(c.d.Out, whole.Out[:len(c.d.Out)])
		if (c.shorter || c.ofWrites) && !begins {
			t.Errorf("%s, %s: no beginning", what, c.what)
		}
		if begins {
			explained(t, what+", "+c.what, s, c.d)
		} else {
			wantTold(t, what+", "+c.what, s, []api.Deed{c.d}, 0)
		}
	}
	for _, end := range otherEnds(going) {
		if end.How == api.Going {
			wantTold(t, fmt.Sprintf("%s, %+v", what, end), s, []api.Deed{behind(d, func(d *api.Deed) { d.End = end })}, 0)
		}
	}
}

// P17.2: a deed that has published and goes on is whole already, and has the Writes that are laid.
func TestDeedsThatHavePublished(t *testing.T) {
	s := busy()
	d := aloneDeed(t, s, writesOn, 5)
	d.End = going
	explained(t, "published", s, d)
	for _, c := range changes(d) {
		wantTold(t, "published, "+c.what, s, []api.Deed{c.d}, 0)
	}
	for _, end := range otherEnds(going) {
		if end != committed {
			wantTold(t, fmt.Sprintf("published, %+v", end), s, []api.Deed{behind(d, func(d *api.Deed) { d.End = end })}, 0)
		}
	}
}

// P17.2, R6: NaNs of other bits are the one NaN, wherever a deed has them; what is laid is fixed.
func TestNaNsAreOne(t *testing.T) {
	s := busy()
	spoil := func(d *api.Deed, nan float64) {
		for i, x := range d.Out {
			if x != x {
				d.Out[i] = nan
			}
		}
		for _, l := range [][]api.Touch{d.Reads, d.Writes} {
			for i := range l {
				if l[i].X != l[i].X {
					l[i].X = nan
				}
			}
		}
	}
	for _, bits := range odd {
		if of(bits) == of(bits) {
			continue
		}
		for number := range s.Programs {
			explained(t, fmt.Sprintf("%x", bits), s, behind(aloneDeed(t, s, number, 5), func(d *api.Deed) { spoil(d, of(bits)) }))
		}
		// What the first one laid with these bits the second one reads as the one NaN.
		chain := api.Setup{Config: s.Config, Programs: []api.Program{program(api.Updates, in(api.OpArg, 0), push(0), write, halt), program(api.Reads, push(0), read, emit, halt)}}
		for _, other := range []uint64{bits, oneNaN, 0xffffffffffffffff} {
			l := []api.Deed{
				{Tag: api.Updates, Number: 1, Args: []float64{of(bits)}, Writes: []api.Touch{at(0, of(bits))}, End: committed},
				{Program: 1, Tag: api.Reads, Mark: 1, Reads: []api.Touch{at(0, of(other))}, Out: []float64{of(other)}, End: committed},
			}
			wantExplained(t, fmt.Sprintf("%x, then %x", bits, other), chain, l, of(oneNaN), 0, 0)
		}
	}
}

// P17.2: whether an updater has a Number goes with its end.
func TestNumbersAndEnds(t *testing.T) {
	s := busy()
	unpublished := aloneDeed(t, s, writesOn, 5)
	unpublished.Number = 0
	wantTold(t, "Committed with the Number 0", s, []api.Deed{unpublished}, 0)
	unpublished.End = going
	explained(t, "going with the Number 0", s, unpublished)
	for _, number := range []int{writesTillAbort, writesTillError} {
		d := aloneDeed(t, s, number, 5)
		explained(t, "without a Number", s, d)
		d.Number = 1
		for _, end := range []api.End{d.End, going, committed} {
			wantTold(t, fmt.Sprintf("a Number of the program %d, %+v", number, end), s, []api.Deed{behind(d, func(d *api.Deed) { d.End = end })}, 0)
		}
		d.Number, d.End = 0, committed
		wantTold(t, fmt.Sprint("Committed, the program ", number), s, []api.Deed{d}, 0)
	}
	// A reader that is Committed has no Number.
	explained(t, "a reader", s, aloneDeed(t, s, readsOn, 5))
}

// P17.2: programs that fail, each by its own error.
func TestFailures(t *testing.T) {
	s := chapters()
	for _, one := range []struct {
		p api.Program
		d api.Deed
	}{
		{program(api.Reads, in(api.OpJump, 0)), api.Deed{End: failed(api.ErrFuel)}},
		{program(api.Reads, push(0), read, push(0), write), api.Deed{Reads: []api.Touch{at(0, 3)}, End: failed(api.ErrReadOnlyWrite)}},
		{program(api.Reads, push(1), read, halt), api.Deed{End: failed(api.ErrBadProgram)}},
		{program(api.Reads), api.Deed{End: failed(api.ErrBadProgram)}},
		{program(api.Reads, push(1), in(api.OpJump, 0)), api.Deed{End: failed(api.ErrFuel)}},
		{program(api.Updates, in(api.OpDrop, 0)), api.Deed{End: failed(api.ErrStack)}},
		{program(api.Updates, in(api.OpCall, 0)), api.Deed{End: failed(api.ErrStack)}},
		{program(api.Updates, push(8), push(0), write), api.Deed{Writes: []api.Touch{at(0, 8)}, End: failed(api.ErrBadProgram)}},
		{program(api.Updates, push(8), push(0), write, push(8), push(1), write), api.Deed{Writes: []api.Touch{at(0, 8)}, End: failed(api.ErrTooManyWrites)}},
		{program(api.Updates, push(8), push(0), write, in(api.OpAbort, 99)), api.Deed{Writes: []api.Touch{at(0, 8)}, End: aborted(99)}},
		{program(api.Reads, in(api.OpAbort, 0)), api.Deed{End: aborted(0)}},
		{program(0, halt), api.Deed{End: failed(api.ErrBadProgram)}},
	} {
		s.Programs, one.d.Tag = []api.Program{one.p}, one.p.Tag
		final := []float64{3}
		if one.d.End.E == api.ErrTooManyWrites {
			s.Config.Cells, final = 2, []float64{3, 0}
		}
		what := fmt.Sprintf("%+v", one.d.End)
		wantExplained(t, what, s, []api.Deed{one.d}, final...)
		wantTold(t, what+", but Committed", s, []api.Deed{behind(one.d, func(d *api.Deed) { d.End = committed })}, 0)
		s.Config.Cells = 1
	}
}

// P17.2: deeds that are not placed: explained, if they have done nothing, whatever else they are.
func TestUnplaced(t *testing.T) {
	s := chapters()
	for _, tag := range []int{api.Reads, api.Updates, 0, 3} {
		for _, number := range []int{0, 1, 2, -1, math.MinInt, math.MaxInt} {
			d := api.Deed{Thread: -4, No: 9, Program: number, Tag: tag, Args: make([]float64, 12), Mark: -1, Begun: 4, Ended: 2, Steps: -1, Ahead: 7, From: 9, To: 3}
			what := fmt.Sprint("the tag ", tag, " of the program ", number)
			wantExplained(t, what, s, []api.Deed{d}, 3)
			for name, change := range map[string]func(d *api.Deed){
				"a read":         func(d *api.Deed) { d.Reads = []api.Touch{at(0, 3)} },
				"a write":        func(d *api.Deed) { d.Writes = []api.Touch{at(0, 4)} },
				"a number":       func(d *api.Deed) { d.Out = []float64{0} },
				"Committed":      func(d *api.Deed) { d.End = committed },
				"Aborted":        func(d *api.Deed) { d.End = aborted(1) },
				"failed":         func(d *api.Deed) { d.End = failed(api.ErrFuel) },
				"but a Code":     func(d *api.Deed) { d.End.Code = 1 },
				"but an error":   func(d *api.Deed) { d.End.E = api.ErrArg },
				"no such end":    func(d *api.Deed) { d.End.How = -1 },
				"another number": func(d *api.Deed) { d.Out = []float64{math.NaN(), 1} },
			} {
				wantTold(t, what+", "+name, s, []api.Deed{behind(d, change)}, 0)
				wantTold(t, what+", "+name+" among others", s, []api.Deed{told(0), d, added(1), behind(d, change), told(1), d}, 3)
			}
		}
	}
}

// P17.2, P17.3: behind each deed with a Number its own Writes are laid, and behind no other one.
func TestWhatIsLaid(t *testing.T) {
	s := chapters()
	l := []api.Deed{told(3), added(3), told(0), added(1), told(2), added(2), told(1)}
	wantExplained(t, "three that add", s, l, 6)
	l[1].End = going
	wantExplained(t, "the last one goes on", s, l, 6)
	// The next one, that goes on unpublished, would commit: nothing of it is laid.
	next := behind(added(4), func(d *api.Deed) { d.Number, d.End = 0, going })
	wantExplained(t, "the next one", s, append(ownDeeds(l), next, told(3)), 6)
	wantTold(t, "laid too early", s, append(ownDeeds(l), next, behind(told(3), func(d *api.Deed) { d.Reads[0].X = 7 })), 8)
	// An updater in the midst that was aborted has written nothing, and those behind it read on.
	s.Programs = append(s.Programs, program(api.Updates, push(0), read, push(99), push(0), write, in(api.OpAbort, 2)))
	vain := api.Deed{Program: 2, Tag: api.Updates, Mark: 1, Reads: []api.Touch{at(0, 4)}, Writes: []api.Touch{at(0, 99)}, End: aborted(2), Begun: 1, Ended: 5}
	late := within(told(1), 6, 9)
	second := behind(added(2), func(d *api.Deed) { d.Mark = 2 })
	wantExplained(t, "one in vain", s, []api.Deed{second, late, vain, told(2), added(1), told(1)}, 5)
	wantOrder(t, "one in vain", []api.Deed{second, late, vain, told(2), added(1), told(1)}, 4, 5, 2, 1, 0, 3)
	wantTold(t, "laid in vain", s, []api.Deed{second, behind(late, func(d *api.Deed) { d.Reads[0].X, d.Out[0] = 99, 99 }), vain, added(1)}, 1)
}

// P17.2: several cells and several Writes of one deed, and a cell that is written again by the next one.
func TestSeveralWrites(t *testing.T) {
	s := api.Setup{Config: api.Config{Cells: 4, Threads: 1, Fuel: 30, Writes: 3}, Start: []float64{1, 2},
		Programs: []api.Program{program(api.Updates, in(api.OpArg, 0), push(3), write, in(api.OpArg, 1), push(0), write, in(api.OpArg, 0), push(3), write, in(api.OpArg, 2), push(2), write, halt)}}
	turn := func(n int, a, b, c float64) api.Deed {
		return api.Deed{Tag: api.Updates, Args: []float64{a, b, c}, Mark: 10 * n, Number: n, Writes: []api.Touch{at(3, a), at(0, b), at(2, c)}, End: committed}
	}
	wantExplained(t, "one", s, []api.Deed{turn(1, 5, 6, 7)}, 6, 2, 7, 5)
	wantExplained(t, "two", s, []api.Deed{turn(2, minus0, 8, math.Inf(-1)), turn(1, 5, 6, 7)}, 8, 2, math.Inf(-1), minus0)
	two := turn(2, 8, 8, 8)
	two.Writes[1], two.Writes[2] = two.Writes[2], two.Writes[1]
	wantTold(t, "in another order", s, []api.Deed{turn(1, 5, 6, 7), two}, 1)
}

// P17.2: where several are not explained, the first one in the order is told; those that are not placed come behind all others.
func TestWhichIsTold(t *testing.T) {
	s := chapters()
	wrong := func(d api.Deed) api.Deed { return behind(d, func(d *api.Deed) { d.Out = append(d.Out, 50) }) }
	all := []api.Deed{reader(-1), told(2), added(2), told(1), told(1), added(1), told(0), updater(-1, 0)}
	order := []int{6, 5, 3, 4, 2, 1, 0, 7}
	for mask := range 1 << len(all) {
		l, want := ownDeeds(all), -1
		for i := range slices.Backward(order) {
			if place := order[i]; mask>>place&1 == 1 {
				l[place], want = wrong(l[place]), place
			}
		}
		if want == -1 {
			wantExplained(t, "none is wrong", s, l, 5)
			continue
		}
		wantTold(t, fmt.Sprintf("wrong: %b", mask), s, l, want)
	}
}

// P17.2: fields of which the chapter says nothing there are not looked at.
func TestOtherFields(t *testing.T) {
	s := chapters()
	l := []api.Deed{told(0), added(1), told(1)}
	for i := range l {
		l[i].Thread, l[i].No, l[i].Steps, l[i].Ahead, l[i].From, l[i].To = math.MinInt, -1, math.MaxInt, -5, 7, 3
		l[i].Begun, l[i].Ended = 10-i, 5+i
	}
	wantExplained(t, "other fields", s, l, 4)
}
