package history_test

import (
	"fmt"
	"math"
	"testing"

	"beadle/api"
	"beadle/history"
)

// roomy is a list with spare room behind it, in which something stands.
func roomy[T any](l []T, spare T) []T {
	return append(own(l), spare, spare, spare)[:len(l)]
}

// roomyHistory is a setup and its deeds, with spare room behind each list, NaNs of other bits, and one deed that is wrong.
func roomyHistory(wrong bool) (api.Setup, []api.Deed) {
	nan := of(0xfff8000000000001)
	s := api.Setup{
		Config:   api.Config{Cells: 2, Threads: 2, Fuel: 20, Writes: 2},
		Start:    roomy([]float64{nan, minus0}, nan),
		Programs: []api.Program{program(api.Updates, push(0), read, emit, in(api.OpArg, 0), push(1), write, halt), program(api.Reads, push(1), read, emit, halt)},
		Threads:  [][]api.Call{roomy([]api.Call{call(0, nan)}, call(9, nan))},
	}
	for i := range s.Programs {
		s.Programs[i].Code = roomy(s.Programs[i].Code, push(nan))
	}
	s.Programs = roomy(s.Programs, program(7, halt))
	l := []api.Deed{
		{Program: 1, Tag: api.Reads, Mark: 1, Reads: []api.Touch{at(1, nan)}, Out: []float64{nan}, End: committed},
		{Program: 0, Tag: api.Updates, Mark: 3, Number: 1, Args: []float64{nan}, Reads: []api.Touch{at(0, nan)}, Writes: []api.Touch{at(1, nan)}, Out: []float64{nan}, End: committed},
		{Program: 1, Tag: api.Reads, Mark: -1},
		{Program: 1, Tag: api.Reads, Reads: []api.Touch{at(1, minus0)}, Out: []float64{minus0}, End: committed},
	}
	for i := range l {
		l[i].Args, l[i].Out = roomy(l[i].Args, nan), roomy(l[i].Out, nan)
		l[i].Reads, l[i].Writes = roomy(l[i].Reads, at(-5, nan)), roomy(l[i].Writes, at(-6, nan))
	}
	if wrong {
		l[0].Out[0] = 8
	}
	return s, roomy(l, api.Deed{Mark: -77})
}

// bitText tells all of a list and its spare room, numbers by their bits.
func bitText(s api.Setup, l []api.Deed) string {
	whole := func(xs []float64) (bits []uint64) {
		for _, x := range xs[:cap(xs)] {
			bits = append(bits, bitsOf(x))
		}
		return bits
	}
	touches := func(l []api.Touch) (all [][2]uint64) {
		for _, one := range l[:cap(l)] {
			all = append(all, [2]uint64{uint64(one.Cell), bitsOf(one.X)})
		}
		return all
	}
	text := fmt.Sprint(s.Config, len(s.Start), whole(s.Start))
	for _, p := range s.Programs[:cap(s.Programs)] {
		text += fmt.Sprint(p.Tag, len(p.Code))
		for _, one := range p.Code[:cap(p.Code)] {
			text += fmt.Sprint(one.Op, one.N, bitsOf(one.X))
		}
	}
	for _, calls := range s.Threads {
		for _, one := range calls[:cap(calls)] {
			text += fmt.Sprint(one.Program, whole(one.Args))
		}
	}
	for _, d := range l[:cap(l)] {
		text += fmt.Sprint(len(d.Args), len(d.Reads), len(d.Writes), len(d.Out), whole(d.Args), touches(d.Reads), touches(d.Writes), whole(d.Out))
		d.Args, d.Reads, d.Writes, d.Out = nil, nil, nil, nil
		text += fmt.Sprintf("%+v\n", d)
	}
	return text
}

// R4: what is handed in is not changed, nor the spare room behind a list, and asking twice tells the same (R5).
func TestHandedInIsNotChanged(t *testing.T) {
	for _, wrong := range []bool{false, true} {
		s, l := roomyHistory(wrong)
		was := bitText(s, l)
		for range 2 {
			wantOrder(t, "roomy", l, 3, 1, 0)
			wantTimely(t, "roomy", l, -1)
			if wrong {
				wantTold(t, "roomy", s, l, 0)
			} else {
				wantExplained(t, "roomy", s, l, of(oneNaN), of(oneNaN))
			}
			l[0].Mark = 5
			wantMayNotBe(t, "roomy", l)
			wantNoReplay(t, "roomy", s, l, api.ErrHistory)
			l[0].Mark = 1
			if got := bitText(s, l); got != was {
				t.Errorf("changed: %s\nit was: %s", got, was)
			}
		}
	}
}

// spoil lays another thing wherever a list, or its spare room, has one.
func spoil[T any](l []T, x T) {
	l = l[:cap(l)]
	for i := range l {
		l[i] = x
	}
}

// R4: what was answered is the caller's own.
func TestAnswersAreTheCallersOwn(t *testing.T) {
	s := chapters()
	l := []api.Deed{told(0), updater(-1, 0)}
	order, _ := history.Order(l)
	final, _ := history.Final(s, l)
	other, _ := history.Final(s, l)
	spoil(order, 99)
	spoil(final, 99)
	wantOrder(t, "spoilt", l, 0)
	wantExplained(t, "spoilt", s, l, 3)
	if s.Start[0] != 3 || other[0] != 3 {
		t.Errorf("Start is %v, another answer %v", s.Start, other)
	}
	spoil(s.Start, 98)
	spoil(l, reader(-1))
	if other[0] != 3 {
		t.Errorf("an answer changed with what was handed in: %v", other)
	}
}

// P17.3: its errors, and the numbers behind all, where Start is shorter than the cells.
func TestFinal(t *testing.T) {
	s := chapters()
	s.Config.Cells = 4
	wantExplained(t, "shorter", s, []api.Deed{added(1), told(0), added(2)}, 5, 0, 0, 0)
	s.Start = []float64{3, math.NaN(), minus0}
	wantExplained(t, "one shorter", s, []api.Deed{added(1), told(0), added(2)}, 5, of(oneNaN), minus0, 0)
	wantNoFinal(t, "one left out", s, []api.Deed{told(0), behind(added(2), func(d *api.Deed) { d.Number = 1 })}, api.ErrHistory)
	wantNoFinal(t, "one left out", s, []api.Deed{told(0), added(2)}, api.ErrHistory)
	wantNoFinal(t, "a wrong one not placed", s, []api.Deed{told(0), added(1), {Mark: -1, End: committed}}, api.ErrHistory)
	s.Start = numbers(5)
	wantNoFinal(t, "a Start too long", s, nil, api.ErrArg)
	s.Start, s.Config.Fuel = nil, 0
	wantNoFinal(t, "a config that may not be", s, nil, api.ErrArg)
	s.Config.Fuel = 20
	wantExplained(t, "nothing at first", s, []api.Deed{{Tag: api.Updates, Number: 1, Reads: []api.Touch{at(0, 0)}, Writes: []api.Touch{at(0, 1)}, End: committed}}, 1, 0, 0, 0)
}
