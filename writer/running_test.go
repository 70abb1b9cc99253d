package writer_test

import (
	"fmt"
	"math"
	"slices"
	"testing"

	"beadle/api"
)

// P15.2, R6: a read of a cell that it has not written is Now, whatever its bits, its version and Was are; its number is fixed.
func TestReadsOfOddNumbers(t *testing.T) {
	for _, now := range odd {
		for _, version := range []uint64{0, 3, 4, greatest} {
			what := fmt.Sprintf("%x, the version %d", now, version)
			m := smallWith(t, 3, version, now, bitsOf(6))
			x := stepped(t, made(t, small, 0, program(api.Updates, push(0), read, emit, halt)), m, 4)
			wantStep(t, what, x, m, 1, false)
			wantLook(t, what, x, look{phase: running, tag: api.Updates, mark: 70, steps: 5, reads: []touch{{0, fixed(now)}}})
			wantMem(t, what, m, []uint64{71, 70, 3, 0, 0, version, now, bitsOf(6)}, false, 4)
			finished(t, x, m)
			wantLook(t, what, x, look{phase: over, tag: api.Updates, mark: 70, number: 4, steps: 11, end: committed, reads: []touch{{0, fixed(now)}}, out: []uint64{fixed(now)}})
			wantWords(t, what, m, 71, 71, 4, 0, 0, version, now, bitsOf(6))
		}
	}
}

// P15.2: each read of a cell that it has not written is an access of its own, which tells what is there then.
func TestReadAgain(t *testing.T) {
	m := smallWith(t, 3, 2, bitsOf(7), bitsOf(6))
	x := stepped(t, made(t, small, 1, program(api.Updates, push(0), read, push(0), read, halt)), m, 5)
	m.Poke(6, bitsOf(8))
	stepped(t, x, m, 1)
	m.Poke(6, bitsOf(9))
	wantStep(t, "read again", x, m, 1, false)
	wantLook(t, "two reads", x, look{phase: running, tag: api.Updates, mark: 70, steps: 7, reads: []touch{{0, bitsOf(7)}, {0, bitsOf(9)}}})
}

// P15.2, R6: what it has written it reads without an access, fixed, whatever Now is by then; and that number is written in the end.
func TestOwnWrites(t *testing.T) {
	for _, bits := range odd {
		what := fmt.Sprintf("%x", bits)
		m := smallWith(t, 3, 2, bitsOf(7), bitsOf(6))
		x := made(t, small, 0, program(api.Updates, push(0), read, push(of(bits)), push(0), write, push(0), read, emit, halt))
		stepped(t, x, m, 7)
		wantStep(t, what+", write", x, m, 1, false)
		m.Poke(6, bitsOf(8))
		for range 4 {
			wantStep(t, what, x, m, 0, false)
		}
		finished(t, x, m)
		wantLook(t, what, x, look{phase: over, tag: api.Updates, mark: 70, number: 4, steps: 19, end: committed, out: []uint64{fixed(bits)},
			reads: []touch{{0, bitsOf(7)}, {0, fixed(bits)}}, writes: []touch{{0, fixed(bits)}}})
		wantWords(t, what, m, 71, 71, 4, 0, 0, 4, fixed(bits), bitsOf(7))
	}
}

// P15.2, R6: what the cell had is what Now was with the first write of it, fixed: neither what a read told ahead of that, nor what others laid there by the second write or by the step of Writing.
func TestWhatTheCellHad(t *testing.T) {
	for _, now := range odd {
		what := fmt.Sprintf("%x", now)
		m := smallWith(t, 3, 2, bitsOf(30), bitsOf(6))
		x := stepped(t, made(t, small, 0, program(api.Updates, push(0), read, push(0), write, push(5), push(0), write, halt)), m, 6)
		m.Poke(6, now)
		wantStep(t, what+", the first write", x, m, 1, false)
		m.Poke(6, bitsOf(31))
		stepped(t, x, m, 2)
		wantStep(t, what+", the second write", x, m, 0, false)
		m.Poke(6, bitsOf(32))
		steppedTo(t, x, m, writing)
		m.Poke(6, bitsOf(33))
		wantStep(t, what+", Was", x, m, 1, false)
		wantWords(t, what+", Was", m, 71, 70, 3, 0, 0, 2, bitsOf(33), fixed(now))
		wantStep(t, what+", Version", x, m, 1, false)
		wantWords(t, what+", Version", m, 71, 70, 3, 0, 0, 4, bitsOf(33), fixed(now))
		wantStep(t, what+", Now", x, m, 1, false)
		wantWords(t, what+", Now", m, 71, 70, 3, 0, 0, 4, bitsOf(5), fixed(now))
		finished(t, x, m)
		wantLook(t, what, x, look{phase: over, tag: api.Updates, mark: 70, number: 4, steps: 18, end: committed, reads: []touch{{0, bitsOf(30)}}, writes: []touch{{0, bitsOf(5)}}})
	}
}

// writesAll writes into these cells, one behind the other, numbers from 50 on, and then halts.
func writesAll(cells []int) api.Program {
	p := program(api.Updates)
	for i, cell := range cells {
		p.Code = append(p.Code, push(float64(50+i)), push(float64(cell)), write)
	}
	p.Code = append(p.Code, halt)
	return p
}

// P15.2, P15.3: of several cells each has its three steps, in the order of the first writes, with what each of them had; a later write of one changes its number, not its place.
func TestWritingInOrder(t *testing.T) {
	c := api.Config{Cells: 6, Threads: 1, Fuel: 60, Writes: 6}
	for _, order := range [][]int{{0}, {5}, {0, 1}, {1, 0}, {4, 2, 0}, {0, 2, 4}, {3, 3}, {2, 5, 2}, {5, 4, 3, 2, 1, 0}, {1, 3, 1, 5, 3, 1, 0}} {
		what := fmt.Sprint(order)
		m, x := filled(t, placed(t, c).Words), made(t, c, 0, writesAll(order))
		steppedTo(t, x, m, writing)
		want := m.All()
		last, firsts := map[int]uint64{}, []int{}
		for i, cell := range order {
			if _, again := last[cell]; !again {
				firsts = append(firsts, cell)
			}
			last[cell] = bitsOf(float64(50 + i))
		}
		for _, cell := range firsts {
			version, now, was := 4+3*cell, 4+3*cell+1, 4+3*cell+2
			had := want[now]
			for _, laid := range []struct {
				at   int
				word uint64
			}{{was, had}, {version, 1003}, {now, last[cell]}} {
				if x.Phase() != writing {
					t.Errorf("%s: Phase %d ahead of the word %d", what, x.Phase(), laid.at)
				}
				wantStep(t, what, x, m, 1, false)
				want[laid.at] = laid.word
				wantWords(t, what, m, want...)
			}
		}
		if x.Phase() != publishing || x.Deed().Steps != 3+3*len(order)+1+1+3*len(firsts) {
			t.Errorf("%s: %+v", what, lookAt(x))
		}
	}
}

// P15.2: as many cells as Writes lets are written, one more is a failure: then none of them is; a second write of a cell needs no room.
func TestAsManyWritesAsMayBe(t *testing.T) {
	for _, writes := range []int{1, 2, 31, 32} {
		c := api.Config{Cells: 256, Threads: 2, Fuel: 300, Writes: writes}
		var order []int
		for i := range writes {
			order = append(order, 255-7*i)
		}
		p := placed(t, c)
		for _, again := range []bool{false, true} {
			what := fmt.Sprint(writes, " cells, again ", again)
			l := slices.Clone(order)
			if again {
				l = append(l, order...)
			}
			m, x := filled(t, p.Words), made(t, c, 1, writesAll(l))
			want := m.All()
			want[0], want[1], want[2] = 1001, 1001, 1003
			for i, cell := range order {
				at := p.Cells + 3*cell
				want[at], want[at+1], want[at+2] = 1003, bitsOf(float64(50+len(l)-writes+i)), want[at+1]
			}
			finished(t, x, m)
			wantWords(t, what, m, want...)
			if d := x.Deed(); d.End != committed || d.Steps != 3+3*len(l)+1+2+3*writes+2 || len(d.Writes) != writes {
				t.Errorf("%s: %+v", what, d)
			}
		}
		m, x := filled(t, p.Words), made(t, c, 1, writesAll(append(order, 0)))
		want := m.All()
		want[0], want[1] = 1001, 1001
		steppedTo(t, x, m, passing)
		if d := x.Deed(); d.Steps != 3+3*(writes+1) || m.Count() != 3+writes || !isOpen(m) {
			t.Errorf("one more than %d: %d accesses, %+v", writes, m.Count(), d)
		}
		finished(t, x, m)
		wantWords(t, fmt.Sprint("one more than ", writes), m, want...)
		if d := x.Deed(); d.End != failed(api.ErrTooManyWrites) || d.Number != 0 || len(d.Writes) != writes {
			t.Errorf("one more than %d: %+v", writes, d)
		}
	}
}

// P15.2: the cells of a config, each with its own three words: the first, the last, and the index behind it, which is none.
func TestEachCell(t *testing.T) {
	for _, cells := range []int{1, 2, 3, 255, 256} {
		c := api.Config{Cells: cells, Threads: 2, Fuel: 20, Writes: 1}
		p := placed(t, c)
		for _, cell := range []int{0, cells / 2, cells - 1} {
			eachCell(t, c, float64(cell), 5+3*cell)
		}
		eachCell(t, c, minus0, 5)
		for _, address := range []float64{float64(cells), float64(cells) + 1, float64(cells) - 0.5, -1, 0.5, 1e300, math.NaN(), math.Inf(1), math.Inf(-1)} {
			for _, does := range []api.Instr{read, write} {
				what := fmt.Sprint(address, " of ", cells, ", the operation ", does.Op)
				m := filled(t, p.Words)
				want := m.All()
				want[0], want[1] = 1001, 1001
				x := stepped(t, made(t, c, 1, program(api.Updates, push(1), push(address), does, halt)), m, 5)
				wantStep(t, what, x, m, 0, false)
				wantStep(t, what+", passed on", x, m, 1, true)
				wantLook(t, what, x, look{phase: over, tag: api.Updates, mark: 1000, end: failed(api.ErrBadProgram), steps: 7})
				wantWords(t, what, m, want...)
			}
		}
	}
}

// eachCell reads the cell of that address, and then writes it; its words lie from first on.
func eachCell(t *testing.T, c api.Config, address float64, first int) {
	t.Helper()
	what := fmt.Sprint("the address ", address, " of ", c.Cells)
	m := filled(t, placed(t, c).Words)
	want := m.All()
	had := want[first+1]
	want[0], want[1], want[2] = 1001, 1001, 1003
	want[first], want[first+1], want[first+2] = 1003, bitsOf(5), had
	x := finished(t, made(t, c, 1, program(api.Updates, push(address), read, push(5), push(address), write, halt)), m)
	cell := (first - 5) / 3
	wantLook(t, what, x, look{phase: over, tag: api.Updates, mark: 1000, number: 1003, end: committed, steps: 16, reads: []touch{{cell, had}}, writes: []touch{{cell, bitsOf(5)}}})
	wantWords(t, what, m, want...)
}

// P15.2: a write under the tag Reads fails without an access, also behind reads; nothing is written.
func TestAWriteUnderReads(t *testing.T) {
	m := smallWith(t, 3, 2, bitsOf(7), bitsOf(6))
	x := stepped(t, made(t, small, 0, program(api.Reads, push(0), read, push(0), write, halt)), m, 6)
	wantStep(t, "a write", x, m, 0, false)
	wantLook(t, "a write", x, look{phase: passing, tag: api.Reads, mark: 70, steps: 7, reads: []touch{{0, bitsOf(7)}}})
	wantStep(t, "passed on", x, m, 1, true)
	wantLook(t, "over", x, look{phase: over, tag: api.Reads, mark: 70, end: failed(api.ErrReadOnlyWrite), steps: 8, reads: []touch{{0, bitsOf(7)}}})
	wantWords(t, "over", m, 71, 71, 3, 0, 0, 2, bitsOf(7), bitsOf(6))
}

// P15.2: addresses that were read are taken as any others, and a stack that is full is full behind a read.
func TestReadsLeadOn(t *testing.T) {
	c := api.Config{Cells: 2, Threads: 1, Fuel: 100, Writes: 1}
	words := []uint64{70, 70, 3, 0, 2, bitsOf(1), bitsOf(6), 2, bitsOf(0), bitsOf(8)}
	x := finished(t, made(t, c, 0, program(api.Updates, push(0), read, read, read, read, push(2), read)), holding(t, words...))
	wantLook(t, "addresses that were read", x, look{phase: over, tag: api.Updates, mark: 70, end: failed(api.ErrBadProgram), steps: 3 + 7 + 1,
		reads: []touch{{0, bitsOf(1)}, {1, 0}, {0, bitsOf(1)}, {1, 0}}})

	full := append(slices.Repeat([]api.Instr{push(0)}, 64), read, push(1))
	x = finished(t, made(t, c, 0, program(api.Updates, full...)), holding(t, words...))
	wantLook(t, "a full stack", x, look{phase: over, tag: api.Updates, mark: 70, end: failed(api.ErrStack), steps: 3 + 66 + 1, reads: []touch{{0, bitsOf(1)}}})
}

// P15.2: the last instruction that the fuel lets it begin may be a read or a write: it is done, and the step behind it ends the updater.
func TestTheFuelEnds(t *testing.T) {
	for fuel := 1; fuel <= 4; fuel++ {
		c := small
		c.Fuel = fuel
		x := finished(t, made(t, c, 0, program(api.Updates, push(0), read, read, read, halt)), smallWith(t, 3, 4, 0, bitsOf(6)))
		wantLook(t, fmt.Sprint("reads, fuel ", fuel), x, look{phase: over, tag: api.Updates, mark: 70, end: failed(api.ErrFuel), steps: 3 + fuel + 1 + 1, reads: slices.Repeat([]touch{{0, 0}}, fuel-1)})

		m := smallWith(t, 3, 4, 0, bitsOf(6))
		x = finished(t, made(t, c, 0, sets()), m)
		want := look{phase: over, tag: api.Updates, mark: 70, end: failed(api.ErrFuel), steps: 3 + fuel + 1 + 1}
		words := []uint64{71, 71, 3, 0, 0, 4, 0, bitsOf(6)}
		if fuel >= 3 {
			want.writes = []touch{{0, bitsOf(5)}}
		}
		if fuel == 4 {
			want.end, want.number, want.steps = committed, 4, 14
			words = []uint64{71, 71, 4, 0, 0, 4, bitsOf(5), 0}
		}
		wantLook(t, fmt.Sprint("a write, fuel ", fuel), x, want)
		wantWords(t, fmt.Sprint("a write, fuel ", fuel), m, words...)
	}
}
