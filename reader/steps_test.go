package reader_test

import (
	"fmt"
	"math"
	"slices"
	"testing"

	"beadle/api"
	"beadle/mem"
	"beadle/reader"
)

// P14.2: a memory of just as many words as the plan, and more: taken; of fewer: ErrPlace, be an access open or not.
func TestStepOfSizes(t *testing.T) {
	for _, c := range []api.Config{{Cells: 1, Threads: 1, Fuel: 1, Writes: 1}, small, {Cells: 5, Threads: 3, Fuel: 9, Writes: 2}, wide} {
		words := placed(t, c).Words
		for _, has := range []int{1, 3, words / 2, words - 2, words - 1} {
			m := filled(t, has)
			for range 2 {
				wantNoStep(t, fmt.Sprint(has, " of ", words), made(t, c, 0, tells()), m, api.ErrPlace)
				m.Open()
			}
		}
		for _, has := range []int{words, words + 1, 2 * words, 4096} {
			m := filled(t, has)
			want := m.All()
			want[3] = 0
			x := finished(t, made(t, c, 0, tells()), m, c)
			if all := m.All(); !slices.Equal(all, want) {
				t.Errorf("%d of %d: the words are %d", has, words, all)
			}
			if x.Deed().Mark != 1002 || x.Phase() != over {
				t.Errorf("%d of %d: %+v", has, words, lookAt(x))
			}
		}
	}
}

// busy is a program that has something of everything: reads of three cells, writes, its own numbers, what it emits.
func busy() api.Program {
	return program(api.Updates, push(0), read, emit, push(5), push(1), write, push(1), read, emit, push(2), read, in(api.OpSet, 3), in(api.OpArg, 0), emit, push(8), push(1), write, push(2), read, halt)
}

var busyConfig = api.Config{Cells: 3, Threads: 3, Fuel: 30, Writes: 2}

// busyMem has the stamp 9 and a cell with a version below it, one at it, one above.
func busyMem(t *testing.T) *mem.Mem {
	t.Helper()
	return holding(t, 40, 41, 9, 42, 43, 44, 7, bitsOf(10), bitsOf(11), 9, bitsOf(12), bitsOf(13), 10, bitsOf(14), bitsOf(15))
}

// P14.2: ahead of each step, and behind the last one: with too few words ErrPlace, though it is over; nothing has changed, and the step is tried again with another memory.
func TestRefusedAndTriedAgain(t *testing.T) {
	short, m := filled(t, 14), busyMem(t)
	plain, again := made(t, busyConfig, 1, busy(), 4), made(t, busyConfig, 1, busy(), 4)
	other := busyMem(t)
	for i := 0; again.Phase() != over; i++ {
		for range 2 {
			wantNoStep(t, fmt.Sprint("step ", i), again, short, api.ErrPlace)
			short.Open()
		}
		wantStepOK(t, again, m)
		wantStepOK(t, plain, other)
		wantLook(t, fmt.Sprint("step ", i), again, lookAt(plain))
	}
	wantMem(t, "at the end", m, other.All(), isOpen(other), other.Count())
	short = filled(t, 14)
	for range 2 {
		wantNoStep(t, "over, too few words", again, short, api.ErrPlace)
		wantNoStep(t, "over", again, m, api.ErrState)
		wantNoStep(t, "over, its clone", again.Clone(), m, api.ErrState)
		wantNoStep(t, "over, more words", again, filled(t, 16), api.ErrState)
		short.Open()
		m.Open()
	}
}

// onward is all that can be seen of a reader and its memory from here on, step by step, to behind its end.
func onward(x *reader.Reader, m *mem.Mem) string {
	told := fmt.Sprint(lookAt(x), m.All())
	e := api.OK
	for i := 0; i < 40 && e == api.OK; i++ {
		var is bool
		is, e = x.Step(m)
		told += fmt.Sprint(is, e, lookAt(x), m.All())
	}
	return told
}

// nextAccess tells which word the next step looks at or lays: a word is looked at, if what stands there in that step alone makes a difference later on.
func nextAccess(x *reader.Reader, m *mem.Mem) string {
	y, after := x.Clone(), m.Clone()
	y.Step(after)
	behind := after.All()
	plain := onward(y, after)
	told := ""
	for i, word := range m.All() {
		laid := word != behind[i]
		if laid {
			told += fmt.Sprint("store ", i, " ")
		}
		if seen(x, m, i, laid, plain) {
			told += fmt.Sprint("load ", i, " ")
		}
	}
	return told
}

// seen tells whether another word in that place makes a difference. It is put back behind the step, unless the step has laid one there.
func seen(x *reader.Reader, m *mem.Mem, at int, laid bool, plain string) bool {
	word, _ := m.Peek(at)
	for _, other := range []uint64{0, word + 1, bitsOf(3), greatest} {
		y, n := x.Clone(), m.Clone()
		n.Poke(at, other)
		y.Step(n)
		if !laid {
			n.Poke(at, word)
		}
		if onward(y, n) != plain {
			return true
		}
	}
	return false
}

// wantAccesses: each step's access, from here to the end; what is done ahead of a step is done to the memory.
func wantAccesses(t *testing.T, what string, x *reader.Reader, m *mem.Mem, ahead map[int]func(), want ...string) {
	t.Helper()
	for i, access := range want {
		if ahead[i] != nil {
			ahead[i]()
		}
		if access != "" {
			access += " "
		}
		if got := nextAccess(x, m); got != access {
			t.Errorf("%s, step %d: %q, want %q", what, i, got, access)
		}
		wantStep(t, fmt.Sprint(what, ", step ", i), x, m, min(1, len(access)), i == len(want)-1)
	}
	wantNoStep(t, what+", over", x, m, api.ErrState)
}

// P14.2, P0.5: which word each step looks at or lays, and that there is no other, in each part and each way of a read.
func TestTheWordOfEachStep(t *testing.T) {
	m := busyMem(t)
	wantAccesses(t, "busy", made(t, busyConfig, 1, busy(), 4), m, nil,
		"load 2", "store 4", "load 2",
		"", "load 6", "load 7", "load 6", "", // push 0, read, emit
		"", "", "", "", "", "", // push 5, push 1, write, push 1, read of its own, emit
		"", "load 12", "load 14", "", "", "", // push 2, read, set, arg, emit
		"", "", "", "", "load 12", "load 14", // push 8, push 1, write, push 2, read
		"", "store 4")

	torn := busyMem(t)
	wantAccesses(t, "torn", made(t, busyConfig, 0, program(api.Reads, push(1), read, emit, halt)), torn,
		map[int]func(){6: func() { torn.Poke(9, 8) }},
		"load 2", "store 3", "load 2", "", "load 9", "load 10", "load 9", "load 11", "", "", "store 3")
	if all := torn.All(); all[9] != 8 || all[3] != 0 {
		t.Errorf("torn: %d", all)
	}
}

// P14.2: each operation within a step of its own, without an access but of a read.
func TestTheAccessOfEachInstruction(t *testing.T) {
	for op := api.OpPush; op <= api.OpHalt; op++ {
		it := in(op, 0)
		switch op {
		case api.OpOne, api.OpTwo:
			it.N = 1
		case api.OpJump, api.OpIf, api.OpUnless, api.OpCall:
			it.N = 4
		}
		m := smallWith(t, 3, 4, bitsOf(7), bitsOf(6))
		x := stepped(t, made(t, small, 0, program(api.Updates, push(0), push(0), push(0), it, halt)), m, 6)
		what := fmt.Sprint("the operation ", op)
		switch op {
		case api.OpRead:
			wantStep(t, what, x, m, 1, false)
			wantStep(t, what+", its end", x, m, 1, false)
		case api.OpRet, api.OpAbort, api.OpHalt:
			wantStep(t, what, x, m, 0, false)
			wantStep(t, what+", left", x, m, 1, true)
			continue
		default:
			wantStep(t, what, x, m, 0, false)
		}
		wantStep(t, what+", halt", x, m, 0, false)
		wantStep(t, what+", left", x, m, 1, true)
		if d := x.Deed(); d.End != committed {
			t.Errorf("%s: %+v", what, d.End)
		}
	}
}

// P14.2: an access that was left open ahead of a step is neither lost nor one more.
func TestLeftOpenAhead(t *testing.T) {
	plain, m := made(t, busyConfig, 1, busy(), 4), busyMem(t)
	left, n := made(t, busyConfig, 1, busy(), 4), busyMem(t)
	for plain.Phase() != over {
		wantStepOK(t, plain, m)
		n.Open()
		wantStepOK(t, left, n)
		wantLook(t, "left open", left, lookAt(plain))
		wantMem(t, "left open", n, m.All(), isOpen(m), m.Count())
	}
}

// P14.2: a step opens by itself, and what it leaves is one access at most.
func TestLeftOpenBehind(t *testing.T) {
	m := smallWith(t, 3, 4, bitsOf(7), bitsOf(6))
	x := stepped(t, made(t, small, 0, program(api.Reads, push(0), push(0), halt)), m, 5)
	if v, e := m.Load(2); v != 3 || e != api.OK {
		t.Errorf("behind a push: %d, %d", v, e)
	}
	if _, e := m.Load(2); e != api.ErrSpent {
		t.Errorf("behind a push and a Load: %d", e)
	}
	stepped(t, x, m, 2)
	if _, e := m.Load(2); e != api.ErrSpent {
		t.Errorf("behind the end: %d", e)
	}
}

// P14.2: the claim is what Stamp was at first, the stamp what it is behind the claim; a claim of 2^64 - 1 leaves the word 0.
func TestComing(t *testing.T) {
	for _, claim := range stamps {
		for _, stamp := range stamps {
			what := fmt.Sprint("the claim ", claim, ", the stamp ", stamp)
			m, x := smallWith(t, claim, 0, 0, 0), made(t, small, 1, program(api.Reads, halt))
			begun := look{phase: coming, tag: api.Reads, mark: -1}
			wantStep(t, what, x, m, 1, false)
			begun.steps = 1
			wantLook(t, what, x, begun)
			wantMem(t, what, m, []uint64{70, 71, claim, 73, 74, 0, 0, 0}, false, 1)
			m.Poke(2, 99)
			wantStep(t, what, x, m, 1, false)
			begun.steps = 2
			wantLook(t, what, x, begun)
			wantMem(t, what, m, []uint64{70, 71, 99, 73, claim + 1, 0, 0, 0}, false, 2)
			m.Poke(2, stamp)
			m.Poke(4, 98)
			wantStep(t, what, x, m, 1, false)
			wantLook(t, what, x, look{phase: running, tag: api.Reads, mark: int(stamp), steps: 3})
			wantMem(t, what, m, []uint64{70, 71, stamp, 73, 98, 0, 0, 0}, false, 3)
		}
	}
}

// twice is what a read may meet: the stamp, the version with its first step and with its third.
type twice struct{ stamp, first, third uint64 }

// meetings are versions below, at and above the stamp, with each step.
func meetings() []twice {
	var l []twice
	for _, stamp := range stamps {
		about := []uint64{0, stamp - 1, stamp, stamp + 1, 1 << 63, greatest}
		for _, first := range about {
			for _, third := range about {
				l = append(l, twice{stamp, first, third})
			}
		}
	}
	return l
}

// P14.2: each of the ways of a read, with all words changed between its steps, so that just those count that its steps look at.
func TestEachWayOfARead(t *testing.T) {
	ways := map[int]int{}
	for _, v := range meetings() {
		steps, x := 3, 21.0
		switch {
		case v.first > v.stamp:
			steps, x = 2, 31
		case v.third != v.first:
			steps, x = 4, 33
		}
		ways[steps]++
		wantRead(t, fmt.Sprintf("%+v", v), v, steps, x)
	}
	for steps := 2; steps <= 4; steps++ {
		if ways[steps] < 20 {
			t.Errorf("%d reads of %d steps", ways[steps], steps)
		}
	}
}

// wantRead is a read of so many steps; with its i-th step Now is 20 and i, Was 30 and i. Its claim, and the stamp that is published by then, are other ones than its own stamp.
func wantRead(t *testing.T, what string, v twice, steps int, want float64) {
	t.Helper()
	m := smallWith(t, ^v.stamp, 55, 56, 57)
	x := stepped(t, made(t, small, 1, tells()), m, 2)
	m.Poke(2, v.stamp)
	stepped(t, x, m, 2)
	under := look{phase: running, tag: api.Reads, mark: int(v.stamp), steps: 4}
	for i := range steps {
		wantLook(t, fmt.Sprint(what, ", ahead of the step ", i), x, under)
		lay := []uint64{70, 71, ^v.stamp, 73, 0, []uint64{v.first, 7777, v.third, 8888}[i], bitsOf(float64(20 + i)), bitsOf(float64(30 + i))}
		for at, word := range lay {
			m.Poke(at, word)
		}
		wantStep(t, fmt.Sprint(what, ", step ", i), x, m, 1, false)
		wantMem(t, what, m, lay, false, 4+i)
		under.steps++
	}
	under.reads = []touch{{0, bitsOf(want)}}
	wantLook(t, what+", read", x, under)
	wantStep(t, what+", emit", x, m, 0, false)
	under.out, under.steps = []uint64{bitsOf(want)}, under.steps+1
	wantLook(t, what+", emit", x, under)
}

// P14.2, R6: numbers of all bits in Now and Was, by each way of a read.
func TestReadsOfOddNumbers(t *testing.T) {
	for _, now := range odd {
		for _, was := range odd {
			for version, want := range map[uint64]uint64{2: now, 4: was} {
				m := smallWith(t, 3, version, now, was)
				x := finished(t, made(t, small, 0, tells()), m, small)
				got := lookAt(x)
				if !slices.Equal(got.reads, []touch{{0, fixed(want)}}) || !slices.Equal(got.out, []uint64{fixed(want)}) {
					t.Errorf("%x, %x, the version %d: %x, %x, want %x", now, was, version, got.reads, got.out, fixed(want))
				}
			}
			m := smallWith(t, 3, 2, now, was)
			x := stepped(t, made(t, small, 0, tells()), m, 6)
			m.Poke(5, 3)
			if got := lookAt(finished(t, x, m, small)); !slices.Equal(got.out, []uint64{fixed(was)}) || got.steps != 11 {
				t.Errorf("%x, %x, torn: %x, %d steps, want %x", now, was, got.out, got.steps, fixed(was))
			}
		}
	}
}

// P14.2: each read of a program is a read of its own: the same cell read again is read anew, at the same stamp.
func TestReadAgain(t *testing.T) {
	m := smallWith(t, 3, 2, bitsOf(7), bitsOf(6))
	x := stepped(t, made(t, small, 1, program(api.Reads, push(0), read, push(0), read, push(0), read, halt)), m, 7)
	m.Poke(2, 99)
	m.Poke(6, bitsOf(8))
	stepped(t, x, m, 4)
	m.Poke(5, 4)
	stepped(t, x, m, 3)
	wantLook(t, "three reads", x, look{phase: running, tag: api.Reads, mark: 3, steps: 14, reads: []touch{{0, bitsOf(7)}, {0, bitsOf(8)}, {0, bitsOf(6)}}})
}

// P14.1, P14.2: with the tag Updates: what it has written it reads within the instruction's own step, also where the numbers that it writes are odd ones; no word is changed, and what it has not written is read as ever.
func TestOwnWrites(t *testing.T) {
	c := api.Config{Cells: 2, Threads: 1, Fuel: 20, Writes: 1}
	for _, bits := range odd {
		m := holding(t, 70, 71, 3, 72, 2, bitsOf(7), bitsOf(6), 4, bitsOf(9), bitsOf(8))
		words := m.All()
		x := made(t, c, 0, program(api.Updates, push(0), read, push(of(bits)), push(0), write, push(0), read, emit, push(1), read, halt))
		for i, accesses := range []int{1, 1, 1, 0, 1, 1, 1, 0, 0, 0, 0, 0, 0, 0, 1, 1, 0, 1} {
			wantStep(t, fmt.Sprint("step ", i), x, m, accesses, i == 17)
		}
		words[3] = 0
		wantMem(t, "its own writes", m, words, false, 9)
		wantLook(t, fmt.Sprintf("%x", bits), x, look{phase: over, tag: api.Updates, mark: 3, steps: 18, end: committed, out: []uint64{fixed(bits)},
			reads: []touch{{0, bitsOf(7)}, {0, fixed(bits)}, {1, bitsOf(8)}}, writes: []touch{{0, fixed(bits)}}})
	}
}

// P14.2: the cells of a config, each with its own three words: the first, the last, and the index behind it, which is none.
func TestEachCell(t *testing.T) {
	for _, cells := range []int{1, 2, 3, 255, 256} {
		c := api.Config{Cells: cells, Threads: 2, Fuel: 20, Writes: 1}
		for _, cell := range []int{0, cells / 2, cells - 1} {
			m, p := filled(t, placed(t, c).Words), program(api.Reads, push(float64(cell)), read, halt)
			for _, version := range []uint64{1002, 1003} {
				first := 5 + 3*cell
				m.Poke(first, version)
				x := finished(t, made(t, c, 1, p), m, c)
				want, steps := uint64(1000+first+1), 9
				if version == 1003 {
					want, steps = want+1, 8
				}
				wantLook(t, fmt.Sprint("the cell ", cell, " of ", cells, " at ", version), x, look{phase: over, tag: api.Reads, mark: 1002, end: committed, steps: steps, reads: []touch{{cell, want}}})
			}
		}
		for _, address := range []float64{float64(cells), float64(cells) + 1, float64(cells) - 0.5, -1, 0.5, 1e300, math.NaN(), math.Inf(1), math.Inf(-1)} {
			m := filled(t, placed(t, c).Words)
			x := stepped(t, made(t, c, 1, program(api.Reads, push(address), read, halt)), m, 4)
			wantStep(t, "a read of no cell", x, m, 0, false)
			wantStep(t, "a read of no cell, left", x, m, 1, true)
			wantLook(t, fmt.Sprint(address, " of ", cells), x, look{phase: over, tag: api.Reads, mark: 1002, end: failed(api.ErrBadProgram), steps: 6})
		}
		x := finished(t, made(t, c, 1, program(api.Reads, push(minus0), read, halt)), filled(t, placed(t, c).Words), c)
		if got := touches(x.Deed().Reads); !slices.Equal(got, []touch{{0, 1007}}) {
			t.Errorf("-0 of %d: %v", cells, got)
		}
	}
}

// ends are programs with how they end, and how many steps of Running they have, without reads.
func ends() map[string]struct {
	p     api.Program
	steps int
	end   api.End
} {
	type row = struct {
		p     api.Program
		steps int
		end   api.End
	}
	return map[string]row{
		"halt at once":          {program(api.Reads, halt), 1, committed},
		"halt":                  {program(api.Updates, push(1), halt), 2, committed},
		"ret at once":           {program(api.Reads, in(api.OpRet, 0)), 1, committed},
		"ret behind a call":     {program(api.Reads, in(api.OpCall, 1), in(api.OpRet, 0)), 3, committed},
		"abort 0 at once":       {program(api.Reads, in(api.OpAbort, 0)), 1, api.End{How: api.Aborted}},
		"abort 99":              {program(api.Updates, push(1), in(api.OpAbort, 99)), 2, api.End{How: api.Aborted, Code: 99}},
		"no fuel":               {program(api.Reads, in(api.OpJump, 0)), 21, failed(api.ErrFuel)},
		"no stack at once":      {program(api.Reads, in(api.OpDrop, 0)), 1, failed(api.ErrStack)},
		"no read at once":       {program(api.Reads, read), 1, failed(api.ErrStack)},
		"too many calls":        {program(api.Reads, in(api.OpCall, 0)), 17, failed(api.ErrStack)},
		"behind the end":        {program(api.Reads, push(1)), 2, failed(api.ErrBadProgram)},
		"the tag 7":             {program(7, push(1)), 1, failed(api.ErrBadProgram)},
		"a read of no cell":     {program(api.Reads, push(1), read), 2, failed(api.ErrBadProgram)},
		"a write of no cell":    {program(api.Updates, push(1), push(1), write), 3, failed(api.ErrBadProgram)},
		"a write under Reads":   {program(api.Reads, push(1), push(0), write), 3, failed(api.ErrReadOnlyWrite)},
		"a jump behind the end": {program(api.Reads, in(api.OpJump, 1), push(1)), 3, failed(api.ErrBadProgram)},
	}
}

// P14.2, P14.3, P14.4: each end: it leaves behind it, with a step that lays 0 into its own thread's word alone, and its end is told with that.
func TestEachEnd(t *testing.T) {
	for what, c := range ends() {
		m, x := smallWith(t, 5, 0, 0, 0), made(t, small, 1, c.p)
		stepped(t, x, m, 3)
		for i := range c.steps {
			if x.Phase() != running {
				t.Errorf("%s: Phase %d ahead of the step %d", what, x.Phase(), i)
			}
			wantStep(t, what, x, m, 0, false)
		}
		d := x.Deed()
		if x.Phase() != leaving || d.End != (api.End{}) || d.Steps != 3+c.steps {
			t.Errorf("%s: Phase %d, %+v", what, x.Phase(), d)
		}
		lay := []uint64{31, 32, 33, 34, 35, 36, 37, 38}
		for at, word := range lay {
			m.Poke(at, word)
		}
		wantStep(t, what+", left", x, m, 1, true)
		lay[4] = 0
		wantMem(t, what+", left", m, lay, false, 4)
		wantLook(t, what, x, look{phase: over, tag: c.p.Tag, mark: 5, end: c.end, steps: 4 + c.steps, writes: touches(d.Writes), out: allBits(d.Out)})
	}
}

// P14.2: the ends that reads and writes lead to: a second cell written where one may be, a stack that is full.
func TestEndsBehindReadsAndWrites(t *testing.T) {
	c := api.Config{Cells: 2, Threads: 1, Fuel: 100, Writes: 1}
	words := []uint64{70, 71, 3, 72, 2, bitsOf(1), bitsOf(6), 2, bitsOf(0), bitsOf(8)}
	x := finished(t, made(t, c, 0, program(api.Updates, push(5), push(0), read, write, push(6), push(0), write)), holding(t, words...), c)
	wantLook(t, "too many writes", x, look{phase: over, tag: api.Updates, mark: 3, end: failed(api.ErrTooManyWrites), steps: 3 + 9 + 1, reads: []touch{{0, bitsOf(1)}}, writes: []touch{{1, bitsOf(5)}}})

	x = finished(t, made(t, c, 0, program(api.Reads, push(0), read, push(0), write)), holding(t, words...), c)
	wantLook(t, "a write under Reads", x, look{phase: over, tag: api.Reads, mark: 3, end: failed(api.ErrReadOnlyWrite), steps: 3 + 6 + 1, reads: []touch{{0, bitsOf(1)}}})

	x = finished(t, made(t, c, 0, program(api.Reads, push(0), read, read, read, read, push(2), read)), holding(t, words...), c)
	wantLook(t, "addresses that were read", x, look{phase: over, tag: api.Reads, mark: 3, end: failed(api.ErrBadProgram), steps: 3 + 1 + 4*3 + 2 + 1,
		reads: []touch{{0, bitsOf(1)}, {1, 0}, {0, bitsOf(1)}, {1, 0}}})

	full := append(slices.Repeat([]api.Instr{push(0)}, 64), read, push(1))
	x = finished(t, made(t, c, 0, program(api.Reads, full...)), holding(t, words...), c)
	wantLook(t, "a full stack", x, look{phase: over, tag: api.Reads, mark: 3, end: failed(api.ErrStack), steps: 3 + 64 + 3 + 1 + 1, reads: []touch{{0, bitsOf(1)}}})
}

// P14.2: the last instruction that the fuel lets it begin may be a read: it is read to its end, and the step behind that ends it.
func TestTheFuelEndsAtARead(t *testing.T) {
	for fuel := 1; fuel <= 4; fuel++ {
		c := small
		c.Fuel = fuel
		m, x := smallWith(t, 3, 4, bitsOf(7), bitsOf(0)), made(t, c, 0, program(api.Reads, push(0), read, read, read, halt))
		finished(t, x, m, c)
		wantLook(t, fmt.Sprint("fuel ", fuel), x, look{phase: over, tag: api.Reads, mark: 3, end: failed(api.ErrFuel), steps: 3 + 1 + 2*(fuel-1) + 1 + 1, reads: slices.Repeat([]touch{{0, 0}}, fuel-1)})
	}
}
