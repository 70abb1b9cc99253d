package writer_test

import (
	"fmt"
	"slices"
	"testing"

	"beadle/alone"
	"beadle/api"
	"beadle/mem"
	"beadle/reader"
	"beadle/state"
	"beadle/writer"
)

// transaction is a reader or an updater, as a thread goes through it.
type transaction interface {
	Step(m *mem.Mem) (bool, api.Errno)
	Phase() int
	Deed() api.Deed
}

// gone is a transaction of an order: its program, and how many stamps were published when it began and when it was over, or at last.
type gone struct {
	transaction
	p           api.Program
	since, till int
}

// order is a long order of steps, from a memory of zeros.
type order struct {
	c     api.Config
	m     *mem.Mem
	going [8]*gone
	all   []*gone
}

func (o *order) published() int {
	stamp, _ := o.m.Peek(2)
	return int(stamp)
}

// begin begins a thread's next transaction, a reader or an updater by its program's tag.
func (o *order) begin(by *rule, thread int) {
	p := programBy(by, o.c.Cells)
	args := []float64{float64(by.below(4)), of(odd[by.below(len(odd))])}
	g := &gone{p: p, since: o.published()}
	if p.Tag == api.Updates {
		g.transaction = writer.New(o.c, thread, p, args)
	} else {
		g.transaction = reader.New(o.c, thread, p, args)
	}
	o.going[thread], o.all = g, append(o.all, g)
}

// step does a thread's next step: one access at most.
func (o *order) step(t *testing.T, by *rule, thread int) {
	t.Helper()
	if o.going[thread] == nil {
		o.begin(by, thread)
	}
	g, count := o.going[thread], o.m.Count()
	is, e := g.Step(o.m)
	if e != api.OK || o.m.Count() > count+1 {
		t.Fatalf("a step: %d, %d accesses", e, o.m.Count()-count)
	}
	g.till = o.published()
	if is {
		o.going[thread] = nil
	}
}

// turns is how many updaters are between the step that told them their turn and the one that passes it on.
func (o *order) turns() int {
	many := 0
	for _, g := range o.going {
		if g == nil {
			continue
		}
		if x, updates := g.transaction.(*writer.Writer); updates && x.Phase() > waiting {
			many++
		}
	}
	return many
}

// P0.1, P0.2, P15.5, P15.6: updaters and readers of many threads in long orders of steps: one updater at a time has the turn; put by their tickets, each goes as it does alone over what those ahead of it left, each reader over what its stamp tells; and all stamps are published one behind the other.
func TestOrders(t *testing.T) {
	ends := map[api.End]int{}
	for seed := range 300 {
		by := rule(seed)
		c := api.Config{Cells: 1 + by.below(3), Threads: 1 + by.below(8), Fuel: 10 + by.below(30), Writes: 1 + by.below(3)}
		m, _ := mem.New(placed(t, c).Words)
		o := &order{c: c, m: m}
		// Some thread stands still for ever, and may hold up those that are behind it, but nobody's numbers are wrong by that.
		still, from := by.below(2*c.Threads), by.below(6000)
		for i := range 3000 {
			thread := by.below(c.Threads)
			if thread == still && i > from {
				continue
			}
			o.step(t, &by, thread)
			if o.turns() > 1 {
				t.Fatalf("the order %d, step %d: %d updaters have the turn", seed, i, o.turns())
			}
		}
		o.explain(t, seed, ends)
		if t.Failed() {
			t.Fatalf("the order %d", seed)
		}
	}
	for _, end := range []api.End{{}, committed, {How: api.Aborted}, failed(api.ErrStack), failed(api.ErrFuel), failed(api.ErrBadProgram), failed(api.ErrTooManyWrites), failed(api.ErrReadOnlyWrite)} {
		if ends[end] < 50 {
			t.Errorf("%+v was met %d times", end, ends[end])
		}
	}
}

// explain goes through the updaters by their tickets, and behind each stamp through the readers that have it.
func (o *order) explain(t *testing.T, seed int, ends map[api.End]int) {
	t.Helper()
	var updaters []*gone
	readers := map[int][]*gone{}
	for _, g := range o.all {
		d := g.Deed()
		ends[api.End{How: d.End.How, E: d.End.E}]++
		switch {
		case d.Mark < 0:
		case d.Tag == api.Updates:
			updaters = append(updaters, g)
		default:
			readers[d.Mark] = append(readers[d.Mark], g)
		}
	}
	slices.SortFunc(updaters, func(a, b *gone) int { return a.Deed().Mark - b.Deed().Mark })
	s, _ := state.New(o.c.Cells)
	explained, stamp := 0, 0
	tell := func() {
		for _, g := range readers[stamp] {
			o.alike(t, fmt.Sprint("the order ", seed, ", a reader at ", stamp), g, s.Clone())
			if stamp < g.since || stamp > g.till {
				t.Errorf("the order %d: the stamp %d of a reader from %d to %d", seed, stamp, g.since, g.till)
			}
			explained++
		}
	}
	tell()
	for i, g := range updaters {
		d := g.Deed()
		if d.Mark != i {
			t.Errorf("the order %d: the ticket %d is the %d-th", seed, d.Mark, i)
		}
		o.alike(t, fmt.Sprint("the order ", seed, ", the updater ", i), g, s.Clone())
		if d.Number == 0 {
			continue
		}
		if stamp++; d.Number != stamp {
			t.Errorf("the order %d: the updater %d has published %d, want %d", seed, i, d.Number, stamp)
		}
		s.Apply(d.Writes)
		tell()
	}
	for mark, l := range readers {
		if mark > stamp {
			t.Errorf("the order %d: %d readers have the stamp %d of %d", seed, len(l), mark, stamp)
		}
	}
	if stamp != o.published() {
		t.Errorf("the order %d: the stamp is %d, %d were published", seed, o.published(), stamp)
	}
}

// alike: what it has read and emitted is what it does alone, or the first part of it; if it is over, its end and writes as well.
func (o *order) alike(t *testing.T, what string, g *gone, s *state.State) {
	t.Helper()
	d := g.Deed()
	r, e := alone.Run(o.c, g.p, d.Args, s)
	if e != api.OK {
		t.Fatalf("%s: alone: %d", what, e)
	}
	reads, out := touches(r.Reads), allBits(r.Out)
	if len(d.Reads) > len(reads) || len(d.Out) > len(out) {
		t.Errorf("%s: %+v, alone %+v", what, d, r)
		return
	}
	if d.End.How == api.Going {
		reads, out = reads[:len(d.Reads)], out[:len(d.Out)]
	} else if d.End != r.End || !slices.Equal(touches(d.Writes), touches(r.Writes)) {
		t.Errorf("%s: %+v, alone %+v", what, d, r)
	}
	if !slices.Equal(touches(d.Reads), reads) || !slices.Equal(allBits(d.Out), out) {
		t.Errorf("%s: %+v, alone %+v", what, d, r)
	}
	if (d.End == committed && d.Tag == api.Updates && d.Number == 0) || (d.Number > 0 && r.End != committed) {
		t.Errorf("%s: the Number %d, %+v", what, d.Number, r.End)
	}
}
