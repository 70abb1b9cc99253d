package bounds_test

import (
	"fmt"
	"math"
	"math/big"
	"slices"
	"testing"

	"beadle/api"
	"beadle/bounds"
)

// most is the greatest count that a deed may have.
const most = 1 << 40

// Tags that are not Updates, and marks of any kind.
var (
	otherTags = []int{api.Reads, 0, -1, -2, 3, 4, 1 << 32, 1<<32 + 2, math.MinInt, math.MinInt + 2, math.MaxInt}
	anyMarks  = []int{math.MinInt, -2, -1, 0, 1, 2, 7, most, most + 1, math.MaxInt}
)

func wantLate(t *testing.T, what string, c api.Config, l []api.Deed, place int) {
	t.Helper()
	if got, e := bounds.Late(c, l); got != place || e != api.OK {
		t.Errorf("%s: Late: %d, %d, want %d", what, got, e, place)
	}
}

func wantMayNotBe(t *testing.T, what string, c api.Config, l []api.Deed) {
	t.Helper()
	if got, e := bounds.Late(c, l); got != 0 || e != api.ErrHistory {
		t.Errorf("%s: Late: %d, %d, want ErrHistory", what, got, e)
	}
}

// updater is one that has its ticket.
func updater(ahead, from, to int) api.Deed {
	return api.Deed{Tag: api.Updates, Ahead: ahead, From: from, To: to}
}

func reader(steps int) api.Deed { return api.Deed{Tag: api.Reads, Steps: steps} }

// counts is where the numbers of a deed stand that a bound has.
func counts(d *api.Deed) map[string]*int {
	return map[string]*int{"Steps": &d.Steps, "Ahead": &d.Ahead, "From": &d.From, "To": &d.To}
}

// The chapter's examples of what is late.
func TestExamplesOfLate(t *testing.T) {
	c := chapters()
	wantLate(t, "a reader with 86 Steps", c, []api.Deed{reader(86)}, -1)
	wantLate(t, "with 87", c, []api.Deed{reader(87)}, 0)
	wantLate(t, "with 87, the third one", c, []api.Deed{reader(86), reader(1), reader(87)}, 2)
	wantLate(t, "an updater, To 248", c, []api.Deed{updater(1, 10, 248)}, -1)
	wantLate(t, "To 249", c, []api.Deed{updater(1, 10, 249)}, 0)
	d := updater(1, 10, 249)
	d.Mark = -1
	wantLate(t, "with the Mark -1", c, []api.Deed{d}, -1)
}

// P18.2: nobody is late of nobody.
func TestNoDeeds(t *testing.T) {
	for _, c := range someConfigs() {
		wantLate(t, "nil", c, nil, -1)
		wantLate(t, "none", c, []api.Deed{}, -1)
		wantLate(t, "none, with room", c, []api.Deed{reader(most), {Steps: -1}}[:0], -1)
	}
}

// someConfigs is the examples' one, the least, the greatest, and some between.
func someConfigs() []api.Config {
	all := []api.Config{chapters(), {Cells: 1, Threads: 1, Fuel: 1, Writes: 1}, {Cells: 256, Threads: 8, Fuel: 1024, Writes: 32}}
	by := rule(11)
	for range 20 {
		all = append(all, api.Config{Cells: 1 + by.below(256), Threads: 1 + by.below(8), Fuel: 1 + by.below(1024), Writes: 1 + by.below(32)})
	}
	return all
}

// P18.2: whatever is no updater is late by its Steps alone.
func TestReaders(t *testing.T) {
	for _, c := range someConfigs() {
		bound := readerOf(c)
		for _, tag := range otherTags {
			for _, mark := range anyMarks {
				for _, rounds := range [][2]int{{0, 0}, {0, most}, {most, 0}, {5, 9}} {
					for _, ahead := range []int{0, 3, most} {
						d := api.Deed{Tag: tag, Mark: mark, Ahead: ahead, From: rounds[0], To: rounds[1]}
						for steps, place := range map[int]int{0: -1, 1: -1, bound - 1: -1, bound: -1, bound + 1: 0, 2 * bound: 0, writerOf(c): 0, most: 0} {
							d.Steps = steps
							wantLate(t, fmt.Sprintf("%+v", d), c, []api.Deed{d}, place)
						}
					}
				}
			}
		}
	}
}

// P18.2: an updater is late by its rounds, of which each one ahead has as many.
func TestUpdaters(t *testing.T) {
	for _, c := range someConfigs() {
		for _, ahead := range []int{0, 1, 2, 7, 8, 100, 1 << 26} {
			bound := (ahead + 1) * writerOf(c)
			for _, from := range []int{0, 1, 10, most - bound - 1} {
				for took, place := range map[int]int{-from: -1, 0: -1, 1: -1, bound - 1: -1, bound: -1, bound + 1: 0} {
					for _, mark := range []int{0, 1, 5, most, most + 1, math.MaxInt} {
						d := updater(ahead, from, from+took)
						d.Mark = mark
						wantLate(t, fmt.Sprintf("%+v", d), c, []api.Deed{d}, place)
					}
				}
			}
		}
	}
}

// P18.2: an updater without a ticket is not late, however long it takes.
func TestUpdatersWithoutTicket(t *testing.T) {
	for _, c := range someConfigs() {
		for _, mark := range []int{-1, -2, -7, math.MinInt} {
			for _, took := range []int{0, 1, writerOf(c), writerOf(c) + 1, most} {
				d := updater(0, 0, took)
				d.Mark, d.Steps = mark, most
				wantLate(t, fmt.Sprintf("%+v", d), c, []api.Deed{d}, -1)
			}
		}
	}
}

// P18.2: what else an updater has does not count: its Steps least of all, as it waits.
func TestWhatDoesNotCount(t *testing.T) {
	c := chapters()
	full := func(d api.Deed) api.Deed {
		d.Thread, d.No, d.Program, d.Number, d.Begun, d.Ended = -5, 99, -1, math.MinInt, math.MaxInt, -3
		d.Args, d.Out = []float64{math.NaN(), 1, 2, 3, 4, 5, 6, 7, 8}, []float64{math.Inf(-1)}
		d.Reads, d.Writes = []api.Touch{{Cell: -1, X: 5}}, []api.Touch{{Cell: 999}}
		d.End = api.End{How: 9, Code: -1, E: 77}
		return d
	}
	for _, steps := range []int{0, 86, 87, 119, 120, most} {
		in, out := updater(1, 10, 248), updater(1, 10, 249)
		in.Steps, out.Steps = steps, steps
		wantLate(t, "in time", c, []api.Deed{in, full(in)}, -1)
		wantLate(t, "late", c, []api.Deed{full(in), in, full(out)}, 2)
	}
	wantLate(t, "readers", c, []api.Deed{full(reader(86)), full(reader(87))}, 1)
}

// P18.2: an updater that ends ahead of its beginning is not late.
func TestToBelowFrom(t *testing.T) {
	for _, c := range someConfigs() {
		for _, d := range []api.Deed{updater(0, 1, 0), updater(0, most, 0), updater(most, most, 0), updater(0, writerOf(c)+2, 0), updater(3, most, most-1)} {
			wantLate(t, fmt.Sprintf("%+v", d), c, []api.Deed{d}, -1)
		}
	}
}

// P18.2: the greatest counts that may be, together: nothing wraps round.
func TestGreatestCounts(t *testing.T) {
	for _, c := range someConfigs() {
		wantLate(t, "all", c, []api.Deed{{Tag: api.Updates, Steps: most, Ahead: most, From: most, To: most}}, -1)
		wantLate(t, "Ahead and To", c, []api.Deed{updater(most, 0, most)}, -1)
		wantLate(t, "To", c, []api.Deed{updater(0, 0, most)}, 0)
		// Of so many ahead, or more, there are enough rounds for whatever To may be.
		enough := (most+writerOf(c)-1)/writerOf(c) - 1
		wantLate(t, "just enough", c, []api.Deed{updater(enough, 0, most)}, -1)
		wantLate(t, "one too few", c, []api.Deed{updater(enough-1, 0, most)}, 0)
		wantLate(t, "all, a reader", c, []api.Deed{{Tag: api.Reads, Steps: most, Ahead: most, From: most, To: most}}, 0)
	}
}

// P18.2: each count at its edges, of a deed of each kind, the first one, the last one, one between; ahead of one that is late, and behind it.
func TestCountsThatMayNotBe(t *testing.T) {
	c := chapters()
	for _, name := range []string{"Steps", "Ahead", "From", "To"} {
		for _, n := range []int{math.MinInt, math.MinInt + 1, -most, -1, 0, 1, most - 1, most, most + 1, 1 << 41, math.MaxInt - 1, math.MaxInt} {
			for _, tag := range append([]int{api.Updates}, otherTags...) {
				for _, mark := range []int{-2, -1, 0, 1} {
					for _, others := range [][]api.Deed{{}, {reader(5)}, {reader(5), updater(0, 0, 3)}, {reader(87)}, {updater(0, 0, most), reader(3)}, {reader(1), reader(87), updater(1, 0, 239)}} {
						for place := range len(others) + 1 {
							d := api.Deed{Tag: tag, Mark: mark}
							*counts(&d)[name] = n
							l := slices.Insert(slices.Clone(others), place, d)
							what := fmt.Sprintf("%s %d at %d of %+v", name, n, place, l)
							if n < 0 || n > most {
								wantMayNotBe(t, what, c, l)
							} else {
								wantLate(t, what, c, l, lateOf(c, l))
							}
						}
					}
				}
			}
		}
	}
}

// P18.2: several counts that may not be, with one another and with wrong configs: ErrArg comes first.
func TestWhichErrorComesFirst(t *testing.T) {
	l := []api.Deed{reader(87), {Steps: -1, Ahead: most + 1, From: math.MinInt, To: math.MaxInt}, {To: -1}}
	wantMayNotBe(t, "many", chapters(), l)
	for i := range 4 {
		for _, greatest := range []bool{false, true} {
			c := chapters()
			f := fields(&c)[i]
			*f.n = 0
			if greatest {
				*f.n = f.most + 1
			}
			if place, e := bounds.Late(c, l); place != 0 || e != api.ErrArg {
				t.Errorf("%+v: Late: %d, %d, want ErrArg", c, place, e)
			}
		}
	}
}

// P18.2: of several that are late the first one in the list is told, whoever is later, or began ahead, or has the lesser Mark.
func TestWhichIsTold(t *testing.T) {
	c := chapters()
	in := []api.Deed{reader(86), updater(0, 0, 119), {Tag: api.Updates, Mark: -1, To: most}, {}}
	out := []api.Deed{{Tag: api.Updates, Mark: 9, To: 120, Begun: 8}, {Tag: api.Reads, Mark: 3, Steps: 87, Begun: 5}, updater(0, 0, most), reader(most), {Tag: 77, Steps: 90, Mark: -1}}
	for first := range 9 {
		for second := first; second < 9; second++ {
			for i := range out {
				l := make([]api.Deed, 9)
				for at := range l {
					l[at] = in[at%len(in)]
				}
				l[second], l[first] = out[(i+1)%len(out)], out[i]
				wantLate(t, fmt.Sprint("the ", first, " and the ", second, " by ", i), c, l, first)
			}
		}
	}
}

// lateOf is the place of the first deed that is late, by the chapter's words, reckoned with numbers that have no end; -1: none is, -2: they may not be.
func lateOf(c api.Config, l []api.Deed) int {
	first := -1
	for place := len(l) - 1; place >= 0; place-- {
		d := l[place]
		for _, n := range counts(&d) {
			if *n < 0 || *n > most {
				return -2
			}
		}
		took, bound := big.NewInt(int64(d.Steps)), big.NewInt(int64(readerOf(c)))
		if d.Tag == api.Updates {
			took = new(big.Int).Sub(big.NewInt(int64(d.To)), big.NewInt(int64(d.From)))
			ahead := new(big.Int).Add(big.NewInt(int64(d.Ahead)), big.NewInt(1))
			bound = ahead.Mul(ahead, big.NewInt(int64(writerOf(c))))
		}
		if took.Cmp(bound) > 0 && (d.Tag != api.Updates || d.Mark >= 0) {
			first = place
		}
	}
	return first
}

// deedBy is any deed, most of them near their bounds.
func deedBy(by *rule, c api.Config) api.Deed {
	d := api.Deed{Tag: []int{api.Reads, api.Updates, api.Updates, by.below(9) - 3}[by.below(4)], Mark: by.below(8) - 2}
	d.Steps = max(0, readerOf(c)+by.below(9)-7)
	d.Ahead, d.From = by.below(9), by.below(1000)
	d.To = d.From + (d.Ahead+1)*writerOf(c) + by.below(9) - 7
	switch by.below(30) {
	case 0:
		d.Ahead = by.below(1 << 30)
	case 1:
		d.From, d.To = d.To, d.From
	case 2:
		name := []string{"Steps", "Ahead", "From", "To"}[by.below(4)]
		*counts(&d)[name] = []int{math.MinInt, -1, 0, most, most + 1, math.MaxInt}[by.below(6)]
	}
	return d
}

// P18.2: lists of any deeds, held against the chapter's words.
func TestAnyDeeds(t *testing.T) {
	met := map[int]int{}
	for seed := range 40000 {
		by := rule(seed)
		c := api.Config{Cells: 1 + by.below(256), Threads: 1 + by.below(8), Fuel: 1 + by.below(1024), Writes: 1 + by.below(32)}
		l := make([]api.Deed, by.below(12))
		for i := range l {
			l[i] = deedBy(&by, c)
		}
		place := lateOf(c, l)
		met[place]++
		what := fmt.Sprintf("the deeds %d, %+v, %+v", seed, c, l)
		if place == -2 {
			wantMayNotBe(t, what, c, l)
		} else {
			wantLate(t, what, c, l, place)
		}
		if t.Failed() {
			return
		}
	}
	for place := -2; place < 9; place++ {
		if met[place] < 50 {
			t.Errorf("%d was the answer %d times", place, met[place])
		}
	}
}

// R1: as many deeds as no engine has: the one that is late, or may not be, is the last one.
func TestManyDeeds(t *testing.T) {
	l := make([]api.Deed, 300_000)
	for i := range l {
		l[i] = []api.Deed{reader(86), updater(0, 0, 119)}[i%2]
	}
	last := len(l) - 1
	wantLate(t, "many", chapters(), l, -1)
	l[last].To = 120
	wantLate(t, "many", chapters(), l, last)
	l[last].From = -1
	wantMayNotBe(t, "many", chapters(), l)
}

// R4: what is handed in is not changed, nor the spare room behind it.
func TestHandedInIsNotChanged(t *testing.T) {
	nan := math.Float64frombits(0xfff8000000000001)
	numbers := func() []float64 { return []float64{nan, math.Copysign(0, -1), nan, 4}[:2] }
	touches := func() []api.Touch { return []api.Touch{{Cell: 1, X: nan}, {Cell: -1, X: nan}}[:1] }
	deedsOf := func() []api.Deed {
		l := []api.Deed{reader(86), updater(1, 10, 248), reader(87), {Steps: -9}, {Steps: 88, Mark: -77}}
		for i := range l {
			l[i].Args, l[i].Out, l[i].Reads, l[i].Writes = numbers(), numbers(), touches(), touches()
		}
		return l
	}
	for long, place := range []int{-1, -1, -1, 2, -2, -2} {
		l := deedsOf()[:long]
		for range 2 {
			if place == -2 {
				wantMayNotBe(t, "handed in", chapters(), l)
			} else {
				wantLate(t, "handed in", chapters(), l, place)
			}
			if got, want := bitText(l), bitText(deedsOf()[:long]); got != want {
				t.Errorf("changed: %s\nit was: %s", got, want)
			}
		}
	}
}

// bitText tells all of a list and its spare room, numbers by their bits.
func bitText(l []api.Deed) string {
	text := fmt.Sprintln(len(l), cap(l))
	for _, d := range l[:cap(l)] {
		text += fmt.Sprint(len(d.Args), len(d.Out), len(d.Reads), len(d.Writes), " ")
		for _, x := range slices.Concat(d.Args[:cap(d.Args)], d.Out[:cap(d.Out)]) {
			text += fmt.Sprint(math.Float64bits(x), " ")
		}
		for _, one := range slices.Concat(d.Reads[:cap(d.Reads)], d.Writes[:cap(d.Writes)]) {
			text += fmt.Sprint(one.Cell, math.Float64bits(one.X), " ")
		}
		d.Args, d.Out, d.Reads, d.Writes = nil, nil, nil, nil
		text += fmt.Sprintf("%+v\n", d)
	}
	return text
}
