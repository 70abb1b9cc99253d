package writer_test

import (
	"fmt"
	"testing"

	"beadle/api"
	"beadle/mem"
	"beadle/reader"
)

// The chapter's first example, step by step: 14 steps, the words behind each of them.
func TestExampleOfAnUpdater(t *testing.T) {
	m, _ := mem.New(8)
	x := made(t, small, 0, sets())
	five := bitsOf(5)
	for i, c := range []struct {
		phase, accesses int
		words           []uint64
	}{
		{1, 1, []uint64{1, 0, 0, 0, 0, 0, 0, 0}},
		{2, 1, []uint64{1, 0, 0, 0, 0, 0, 0, 0}},
		{3, 1, []uint64{1, 0, 0, 0, 0, 0, 0, 0}},
		{4, 0, []uint64{1, 0, 0, 0, 0, 0, 0, 0}},
		{4, 0, []uint64{1, 0, 0, 0, 0, 0, 0, 0}},
		{4, 1, []uint64{1, 0, 0, 0, 0, 0, 0, 0}},
		{4, 0, []uint64{1, 0, 0, 0, 0, 0, 0, 0}},
		{5, 1, []uint64{1, 0, 0, 0, 0, 0, 0, 0}},
		{5, 1, []uint64{1, 0, 0, 0, 0, 0, 0, 0}},
		{6, 1, []uint64{1, 0, 0, 0, 0, 0, 0, 0}},
		{6, 1, []uint64{1, 0, 0, 0, 0, 1, 0, 0}},
		{6, 1, []uint64{1, 0, 0, 0, 0, 1, five, 0}},
		{7, 1, []uint64{1, 0, 1, 0, 0, 1, five, 0}},
		{8, 1, []uint64{1, 1, 1, 0, 0, 1, five, 0}},
	} {
		what := fmt.Sprint("step ", i)
		if x.Phase() != c.phase {
			t.Errorf("%s: Phase %d, want %d", what, x.Phase(), c.phase)
		}
		wantStep(t, what, x, m, c.accesses, i == 13)
		wantWords(t, what, m, c.words...)
	}
	wantLook(t, "14 steps", x, look{phase: over, tag: api.Updates, mark: 0, number: 1, steps: 14, end: committed, writes: []touch{{0, five}}})
}

// The chapter's second: a claim of 0 lets the stamp 0 by; a claim of 2 holds up whoever saw the stamp 3, till that word is 0 or above 3.
func TestExampleOfClaims(t *testing.T) {
	m := holding(t, 0, 0, 0, 0, 1, 0, 0, 0)
	if d := stepped(t, made(t, small, 0, sets()), m, 14).Deed(); d.End != committed || d.Number != 1 {
		t.Errorf("a claim of 0: %+v", d)
	}
	for _, later := range []uint64{0, 4, 5} {
		m := holding(t, 0, 0, 3, 0, 3, 0, 0, 0)
		x := stepped(t, made(t, small, 0, sets()), m, 30)
		if x.Phase() != scanning {
			t.Errorf("a claim of 2: Phase %d", x.Phase())
		}
		m.Poke(4, later)
		stepped(t, x, m, 6)
		if d := x.Deed(); d.End != committed || d.Number != 4 || d.Steps != 36 {
			t.Errorf("then %d: %+v", later, d)
		}
	}
}

// The chapter's third, and the document's seventh: one that aborts writes nothing and publishes nothing; its ticket is passed on, and the next one is served.
func TestExampleOfAnAbort(t *testing.T) {
	m, _ := mem.New(8)
	x := made(t, small, 0, program(api.Updates, push(5), push(0), write, in(api.OpAbort, 4)))
	next := made(t, small, 1, sets())
	stepped(t, x, m, 7)
	stepped(t, next, m, 4)
	if x.Phase() != passing || next.Phase() != waiting {
		t.Errorf("Phases %d, %d", x.Phase(), next.Phase())
	}
	wantStep(t, "passed on", x, m, 1, true)
	wantLook(t, "aborted", x, look{phase: over, tag: api.Updates, end: api.End{How: api.Aborted, Code: 4}, steps: 8, writes: []touch{{0, bitsOf(5)}}})
	wantWords(t, "aborted", m, 2, 1, 0, 0, 0, 0, 0, 0)
	finished(t, next, m)
	wantWords(t, "the next one", m, 2, 2, 1, 0, 0, 1, bitsOf(5), 0)
}

// two has two cells; both writes 5 into cell 0 and 7 into cell 1.
var two = api.Config{Cells: 2, Threads: 3, Fuel: 20, Writes: 2}

func both() api.Program {
	return program(api.Updates, push(5), push(0), write, push(7), push(1), write, halt)
}

// tells0 is a program that reads cell 0 and emits it.
func tells0() api.Program { return program(api.Reads, push(0), read, emit, halt) }

// wantRead lets a reader go on to its end: what it emits, and its steps.
func wantRead(t *testing.T, what string, r *reader.Reader, m *mem.Mem, mark int, x float64, steps int) {
	t.Helper()
	for range steps {
		if is, _ := r.Step(m); is {
			break
		}
	}
	d := r.Deed()
	if d.End != committed || d.Mark != mark || len(d.Out) != 1 || bitsOf(d.Out[0]) != bitsOf(x) || d.Steps != steps {
		t.Errorf("%s: %+v, want the stamp %d, %v, %d steps", what, d, mark, x, steps)
	}
}

// reads does so many steps of a reader.
func reads(r *reader.Reader, m *mem.Mem, steps int) *reader.Reader {
	for range steps {
		r.Step(m)
	}
	return r
}

// The document's first, second and third: the words behind an updater of two cells; a reader with the stamp 0 behind that; one that is torn.
func TestExamplesOfTwoCells(t *testing.T) {
	p := placed(t, two)
	m, _ := mem.New(p.Words)
	older := reads(reader.New(two, 1, tells0(), nil), m, 4)
	torn := reads(reader.New(two, 2, tells0(), nil), m, 5)
	x := finished(t, made(t, two, 0, both()), m)
	wantWords(t, "two cells", m, 1, 1, 1, 0, 1, 1, 1, bitsOf(5), 0, 1, bitsOf(7), 0)
	if d := x.Deed(); d.Mark != 0 || d.Number != 1 || d.End != committed {
		t.Errorf("two cells: %+v", d)
	}
	wantRead(t, "an older one", older, m, 0, 0, 9)
	wantRead(t, "a torn one", torn, m, 0, 0, 11)
	wantRead(t, "a later one", reader.New(two, 1, tells0(), nil), m, 1, 5, 10)
}

// The document's fourth: a second updater waits for the reader with the claim 0, however long that takes; new readers come in at the stamp 1 and don't hold it up.
func TestExampleOfASecondUpdater(t *testing.T) {
	m, _ := mem.New(placed(t, two).Words)
	old := reads(reader.New(two, 1, tells0(), nil), m, 5)
	finished(t, made(t, two, 0, both()), m)
	second := steppedTo(t, made(t, two, 0, both()), m, scanning)
	for range 20 {
		wantRead(t, "a new one", reader.New(two, 2, tells0(), nil), m, 1, 5, 10)
		stepped(t, second, m, 3)
		if second.Phase() != scanning || second.Deed().Number != 0 {
			t.Fatalf("it does not wait: %+v", lookAt(second))
		}
	}
	young := reads(reader.New(two, 2, tells0(), nil), m, 3)
	wantRead(t, "the old one", old, m, 0, 0, 11)
	stepped(t, second, m, 2+6+2)
	if d := second.Deed(); d.Number != 2 || d.Mark != 1 || d.End != committed {
		t.Errorf("the second one: %+v", d)
	}
	wantRead(t, "a new one that stayed", young, m, 1, 5, 9)
}

// The document's fifth and sixth, by an updater.
func TestExamplesOfFailures(t *testing.T) {
	c := api.Config{Cells: 1, Threads: 1, Fuel: 200, Writes: 1}
	words := []uint64{0, 0, 3, 0, 2, bitsOf(7), bitsOf(6)}
	x := finished(t, made(t, c, 0, program(api.Updates, push(1), in(api.OpJump, 0))), holding(t, words...))
	wantLook(t, "pushes for ever", x, look{phase: over, tag: api.Updates, end: failed(api.ErrStack), steps: 3 + 129 + 1})
	x = finished(t, made(t, c, 0, program(api.Updates, in(api.OpJump, 0))), holding(t, words...))
	wantLook(t, "jumps for ever", x, look{phase: over, tag: api.Updates, end: failed(api.ErrFuel), steps: 3 + 201 + 1})
	x = finished(t, made(t, c, 0, program(api.Reads, push(0), read, push(0), write, halt)), holding(t, words...))
	wantLook(t, "writes", x, look{phase: over, tag: api.Reads, end: failed(api.ErrReadOnlyWrite), steps: 3 + 4 + 1, reads: []touch{{0, bitsOf(7)}}})
}
