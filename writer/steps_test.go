package writer_test

import (
	"fmt"
	"strings"
	"testing"

	"beadle/api"
	"beadle/mem"
	"beadle/writer"
)

// P15.2: a memory of just as many words as the plan, and more: taken; of fewer: ErrPlace, be an access open or not.
func TestStepOfSizes(t *testing.T) {
	for _, c := range []api.Config{{Cells: 1, Threads: 1, Fuel: 4, Writes: 1}, small, {Cells: 5, Threads: 3, Fuel: 9, Writes: 2}, wide} {
		p := placed(t, c)
		for _, has := range []int{1, 3, p.Words / 2, p.Words - 2, p.Words - 1} {
			m := filled(t, has)
			for range 2 {
				wantNoStep(t, fmt.Sprint(has, " of ", p.Words), made(t, c, 0, sets()), m, api.ErrPlace)
				m.Open()
			}
		}
		for _, has := range []int{p.Words, p.Words + 1, 2 * p.Words, 4096} {
			m := filled(t, has)
			want := m.All()
			want[0], want[1], want[2] = 1001, 1001, 1003
			want[p.Cells], want[p.Cells+1], want[p.Cells+2] = 1003, bitsOf(5), want[p.Cells+1]
			x := finished(t, made(t, c, 0, sets()), m)
			wantWords(t, fmt.Sprint(has, " of ", p.Words), m, want...)
			if d := x.Deed(); d.Mark != 1000 || d.Number != 1003 {
				t.Errorf("%d of %d: %+v", has, p.Words, d)
			}
		}
	}
}

// busy is a program that has something of everything: reads of three cells, writes of two, the second of them ahead of the first, its own numbers, what it emits. With busyMem it has 37 steps: 3, then 23 instructions, 3 of Scanning, 6 of Writing, 2.
func busy() api.Program {
	return program(api.Updates, push(0), read, emit, push(5), push(1), write, push(1), read, emit, push(2), read, in(api.OpSet, 3),
		in(api.OpArg, 0), emit, push(8), push(1), write, push(9), push(0), write, push(0), read, halt)
}

const busySteps = 37

var busyConfig = api.Config{Cells: 3, Threads: 3, Fuel: 30, Writes: 2}

// busyMem has the stamp 9, and claims that hold nobody up: none, 9 and a later one.
func busyMem(t *testing.T) *mem.Mem {
	t.Helper()
	return holding(t, 40, 40, 9, 0, 10, 44, 7, bitsOf(10), bitsOf(11), 9, bitsOf(12), bitsOf(13), 8, bitsOf(14), bitsOf(15))
}

// P15.2: ahead of each step, and behind the last one: with too few words ErrPlace, though it is over; nothing has changed, and the step is tried again with another memory.
func TestRefusedAndTriedAgain(t *testing.T) {
	short, m := filled(t, 14), busyMem(t)
	plain, again := made(t, busyConfig, 1, busy(), 4), made(t, busyConfig, 1, busy(), 4)
	other := busyMem(t)
	for i := 0; again.Phase() != over; i++ {
		for range 2 {
			wantNoStep(t, fmt.Sprint("step ", i), again, short, api.ErrPlace)
			short.Open()
		}
		wantStepOK(t, again, m)
		wantStepOK(t, plain, other)
		wantLook(t, fmt.Sprint("step ", i), again, lookAt(plain))
	}
	wantMem(t, "at the end", m, other.All(), isOpen(other), other.Count())
	short = filled(t, 14)
	for range 2 {
		wantNoStep(t, "over, too few words", again, short, api.ErrPlace)
		wantNoStep(t, "over", again, m, api.ErrState)
		wantNoStep(t, "over, its clone", again.Clone(), m, api.ErrState)
		wantNoStep(t, "over, more words", again, filled(t, 16), api.ErrState)
		short.Open()
		m.Open()
	}
}

// P15.2: over already, whichever end it had: an aborted one and a failed one are refused as well.
func TestOverByEachEnd(t *testing.T) {
	for what, c := range ends() {
		m := smallWith(t, 5, 0, 0, 0)
		x := finished(t, made(t, small, 0, c.p), m)
		for range 2 {
			wantNoStep(t, what, x, m, api.ErrState)
			wantNoStep(t, what, x, filled(t, 7), api.ErrPlace)
			m.Open()
		}
	}
}

// onward is all that can be seen of an updater and its memory from here on, step by step, to behind its end.
func onward(x *writer.Writer, m *mem.Mem) string {
	told := fmt.Sprint(lookAt(x), m.All())
	e := api.OK
	for i := 0; i < 60 && e == api.OK; i++ {
		var is bool
		is, e = x.Step(m)
		told += fmt.Sprint(is, e, x.Phase(), m.All())
	}
	return told + fmt.Sprint(lookAt(x))
}

// nextAccess tells which word the next step looks at or lays: a word is looked at, if what stands there in that step alone makes a difference later on.
func nextAccess(x *writer.Writer, m *mem.Mem) string {
	y, after := x.Clone(), m.Clone()
	y.Step(after)
	behind := after.All()
	plain := onward(y, after)
	told := ""
	for i, word := range m.All() {
		laid := word != behind[i]
		if laid {
			told += fmt.Sprint("store ", i, " ")
		}
		if seen(x, m, i, laid, plain) {
			told += fmt.Sprint("load ", i, " ")
		}
	}
	return told
}

// seen tells whether another word in that place makes a difference. It is put back behind the step, unless the step has laid one there.
func seen(x *writer.Writer, m *mem.Mem, at int, laid bool, plain string) bool {
	word, _ := m.Peek(at)
	for _, other := range []uint64{0, 1, word + 1, bitsOf(3), greatest} {
		y, n := x.Clone(), m.Clone()
		n.Poke(at, other)
		y.Step(n)
		if !laid {
			n.Poke(at, word)
		}
		if onward(y, n) != plain {
			return true
		}
	}
	return false
}

// unseen is an access that lays nothing, and whose word makes no difference.
const unseen = "unseen"

// wantAccesses: each step's access, from here to the end; what is done ahead of a step is done to the memory.
func wantAccesses(t *testing.T, what string, x *writer.Writer, m *mem.Mem, ahead map[int]func(), want ...string) {
	t.Helper()
	for i, access := range want {
		if ahead[i] != nil {
			ahead[i]()
		}
		told := strings.TrimSpace(nextAccess(x, m))
		if told != access && !(access == unseen && told == "") {
			t.Errorf("%s, step %d: %q, want %q", what, i, told, access)
		}
		wantStep(t, fmt.Sprint(what, ", step ", i), x, m, min(1, len(access)), i == len(want)-1)
	}
	wantNoStep(t, what+", over", x, m, api.ErrState)
}

// P15.2, P0.5: which word each step looks at or lays, and that there is no other, in each part.
func TestTheWordOfEachStep(t *testing.T) {
	m := busyMem(t)
	wantAccesses(t, "busy", made(t, busyConfig, 1, busy(), 4), m, nil,
		"store 0 load 0", "load 1", "load 2",
		"", "load 7", "", // push 0, read, emit
		"", "", "load 10", "", "", "", // push 5, push 1, write for the first time, push 1, read of its own, emit
		"", "load 13", "", "", "", // push 2, read, set, arg, emit
		"", "", "", // push 8, push 1, write once more
		"", "", "load 7", "", "", "", // push 9, push 0, write for the first time, push 0, read of its own, halt
		"load 3", "load 4", "load 5",
		"store 11", "store 9", "store 10", "store 8", "store 6", "store 7",
		"store 2", "store 1")
	wantWords(t, "busy", m, 41, 41, 10, 0, 10, 44, 10, bitsOf(9), bitsOf(10), 10, bitsOf(8), bitsOf(12), 8, bitsOf(14), bitsOf(15))

	held := busyMem(t)
	wantAccesses(t, "held up", made(t, busyConfig, 0, program(api.Updates, halt)), held,
		map[int]func(){
			1: func() { held.Poke(1, 39) }, 3: func() { held.Poke(1, 40) },
			7: func() { held.Poke(4, 9) }, 8: func() { held.Poke(4, 0); held.Poke(3, 5) }, 9: func() { held.Poke(5, 1) }, 10: func() { held.Poke(5, 11) },
		},
		"store 0 load 0", "load 1", "load 1", "load 1", "load 2", "", "load 3", "load 4", "load 4", "load 5", "load 5", "store 2", "store 1")
	wantWords(t, "held up", held, 41, 41, 10, 5, 0, 11, 7, bitsOf(10), bitsOf(11), 9, bitsOf(12), bitsOf(13), 8, bitsOf(14), bitsOf(15))

	aborted := busyMem(t)
	wantAccesses(t, "aborted", made(t, busyConfig, 2, program(api.Updates, push(1), read, in(api.OpDrop, 0), in(api.OpAbort, 4))), aborted, nil,
		"store 0 load 0", "load 1", unseen, "", "load 10", "", "", "store 1")
}

// P15.2: each operation within a step of its own, without an access but of a read and a first write.
func TestTheAccessOfEachInstruction(t *testing.T) {
	for op := api.OpPush; op <= api.OpHalt; op++ {
		it, accesses := in(op, 0), 0
		switch op {
		case api.OpOne, api.OpTwo:
			it.N = 1
		case api.OpJump, api.OpIf, api.OpUnless, api.OpCall:
			it.N = 4
		case api.OpRead, api.OpWrite:
			accesses = 1
		}
		m := smallWith(t, 3, 2, bitsOf(7), bitsOf(6))
		x := stepped(t, made(t, small, 0, program(api.Updates, push(0), push(0), push(0), it, halt)), m, 6)
		what := fmt.Sprint("the operation ", op)
		wantStep(t, what, x, m, accesses, false)
		switch op {
		case api.OpAbort:
			wantStep(t, what+", passed on", x, m, 1, true)
			continue
		case api.OpRet, api.OpHalt:
		default:
			wantStep(t, what+", halt", x, m, 0, false)
		}
		if x.Phase() != scanning {
			t.Errorf("%s: Phase %d", what, x.Phase())
		}
		if d := finished(t, x, m).Deed(); d.End != committed {
			t.Errorf("%s: %+v", what, d.End)
		}
	}
}

// P15.2: an access that was left open ahead of a step is neither lost nor one more.
func TestLeftOpenAhead(t *testing.T) {
	plain, m := made(t, busyConfig, 1, busy(), 4), busyMem(t)
	left, n := made(t, busyConfig, 1, busy(), 4), busyMem(t)
	for plain.Phase() != over {
		wantStepOK(t, plain, m)
		n.Open()
		wantStepOK(t, left, n)
		wantLook(t, "left open", left, lookAt(plain))
		wantMem(t, "left open", n, m.All(), isOpen(m), m.Count())
	}
}

// P15.2: a step opens by itself, and what it leaves is one access at most.
func TestLeftOpenBehind(t *testing.T) {
	m := smallWith(t, 3, 2, bitsOf(7), bitsOf(6))
	x := stepped(t, made(t, small, 0, program(api.Updates, push(0), push(0), halt)), m, 5)
	if v, e := m.Load(2); v != 3 || e != api.OK {
		t.Errorf("behind a push: %d, %d", v, e)
	}
	if _, e := m.Load(2); e != api.ErrSpent {
		t.Errorf("behind a push and a Load: %d", e)
	}
	finished(t, x, m)
	if _, e := m.Load(2); e != api.ErrSpent {
		t.Errorf("behind the end: %d", e)
	}
}

// P15.2, P15.4: the ticket is what Next was, whatever that is; it is looked for in Serving, and Passing stores the one behind it, whatever Serving is by then.
func TestDrawingAndPassing(t *testing.T) {
	for _, ticket := range stamps {
		what := fmt.Sprint("the ticket ", ticket)
		m := holding(t, ticket, 55, 3, 0, 0, 2, 4, 5)
		x := made(t, small, 1, program(api.Updates, in(api.OpAbort, 4)))
		wantLook(t, what, x, look{phase: drawing, tag: api.Updates, mark: -1})
		wantStep(t, what, x, m, 1, false)
		wantLook(t, what, x, look{phase: waiting, tag: api.Updates, mark: int(ticket), steps: 1})
		wantMem(t, what, m, []uint64{ticket + 1, 55, 3, 0, 0, 2, 4, 5}, false, 1)
		m.Poke(0, 56)
		m.Poke(1, ticket)
		stepped(t, x, m, 3)
		wantLook(t, what, x, look{phase: passing, tag: api.Updates, mark: int(ticket), steps: 4})
		m.Poke(1, 57)
		wantStep(t, what, x, m, 1, true)
		wantMem(t, what, m, []uint64{56, ticket + 1, 3, 0, 0, 2, 4, 5}, false, 4)
		wantLook(t, what, x, look{phase: over, tag: api.Updates, mark: int(ticket), end: api.End{How: api.Aborted, Code: 4}, steps: 5})
	}
}

// P15.2: it waits as long as Serving is not the ticket, be that below it or above, again and again; what Next is by then is not looked at.
func TestWaiting(t *testing.T) {
	for _, ticket := range stamps {
		m, x := holding(t, ticket, 0, 3, 0, 0, 2, 4, 5), made(t, small, 1, sets())
		stepped(t, x, m, 1)
		steps := 1
		for round := range 3 {
			for _, serving := range []uint64{0, ticket - 1, ticket + 1, ^ticket, ticket ^ 1<<32, ticket ^ 1<<63, greatest} {
				if serving == ticket {
					continue
				}
				what := fmt.Sprint("the ticket ", ticket, ", serving ", serving, ", round ", round)
				m.Poke(0, serving)
				m.Poke(1, serving)
				wantStep(t, what, x, m, 1, false)
				steps++
				wantLook(t, what, x, look{phase: waiting, tag: api.Updates, mark: int(ticket), steps: steps})
				wantMem(t, what, m, []uint64{serving, serving, 3, 0, 0, 2, 4, 5}, false, steps)
			}
		}
		m.Poke(1, ticket)
		wantStep(t, fmt.Sprint("the ticket ", ticket, ", served"), x, m, 1, false)
		wantLook(t, "served", x, look{phase: marking, tag: api.Updates, mark: int(ticket), steps: steps + 1})
	}
}

// P15.2, P15.4: the stamp is what Stamp is with the step of Marking, not ahead of it or behind it: what it publishes is the one behind that, also behind 2^64 - 1.
func TestMarkingAndPublishing(t *testing.T) {
	for _, stamp := range stamps {
		what := fmt.Sprint("the stamp ", stamp)
		m, x := smallWith(t, 99, 2, bitsOf(7), bitsOf(6)), made(t, small, 0, sets())
		stepped(t, x, m, 2)
		m.Poke(2, stamp)
		wantStep(t, what, x, m, 1, false)
		wantLook(t, what, x, look{phase: running, tag: api.Updates, mark: 70, steps: 3})
		wantMem(t, what, m, []uint64{71, 70, stamp, 0, 0, 2, bitsOf(7), bitsOf(6)}, false, 3)
		m.Poke(2, 98)
		steppedTo(t, x, m, publishing)
		wantWords(t, what, m, 71, 70, 98, 0, 0, stamp+1, bitsOf(5), bitsOf(7))
		if d := x.Deed(); d.Number != 0 {
			t.Errorf("%s: the Number %d ahead of Publishing", what, d.Number)
		}
		m.Poke(2, 97)
		wantStep(t, what, x, m, 1, false)
		told := look{phase: passing, tag: api.Updates, mark: 70, number: int(stamp + 1), steps: 13, writes: []touch{{0, bitsOf(5)}}}
		wantLook(t, what, x, told)
		wantWords(t, what, m, 71, 70, stamp+1, 0, 0, stamp+1, bitsOf(5), bitsOf(7))
		wantStep(t, what, x, m, 1, true)
		told.phase, told.end, told.steps = over, committed, 14
		wantLook(t, what, x, told)
		wantWords(t, what, m, 71, 71, stamp+1, 0, 0, stamp+1, bitsOf(5), bitsOf(7))
	}
}

// ends are programs with how they end, and how many steps of Running they have, without reads.
func ends() map[string]struct {
	p     api.Program
	steps int
	end   api.End
} {
	type row = struct {
		p     api.Program
		steps int
		end   api.End
	}
	return map[string]row{
		"halt at once":          {program(api.Updates, halt), 1, committed},
		"halt":                  {program(api.Reads, push(1), halt), 2, committed},
		"ret at once":           {program(api.Updates, in(api.OpRet, 0)), 1, committed},
		"ret behind a call":     {program(api.Updates, in(api.OpCall, 1), in(api.OpRet, 0)), 3, committed},
		"abort 0 at once":       {program(api.Updates, in(api.OpAbort, 0)), 1, api.End{How: api.Aborted}},
		"abort 99":              {program(api.Reads, push(1), in(api.OpAbort, 99)), 2, api.End{How: api.Aborted, Code: 99}},
		"no fuel":               {program(api.Updates, in(api.OpJump, 0)), 21, failed(api.ErrFuel)},
		"no stack at once":      {program(api.Updates, in(api.OpDrop, 0)), 1, failed(api.ErrStack)},
		"no read at once":       {program(api.Updates, read), 1, failed(api.ErrStack)},
		"no write at once":      {program(api.Updates, write), 1, failed(api.ErrStack)},
		"too many calls":        {program(api.Updates, in(api.OpCall, 0)), 17, failed(api.ErrStack)},
		"behind the end":        {program(api.Updates, push(1)), 2, failed(api.ErrBadProgram)},
		"the tag 7":             {program(7, push(1)), 1, failed(api.ErrBadProgram)},
		"a read of no cell":     {program(api.Updates, push(1), read), 2, failed(api.ErrBadProgram)},
		"a write of no cell":    {program(api.Updates, push(1), push(1), write), 3, failed(api.ErrBadProgram)},
		"a write under Reads":   {program(api.Reads, push(1), push(0), write), 3, failed(api.ErrReadOnlyWrite)},
		"a jump behind the end": {program(api.Updates, in(api.OpJump, 1), push(1)), 3, failed(api.ErrBadProgram)},
	}
}

// P15.2 to P15.4: each end, and what follows it: Committed goes on at Scanning, and with nothing written from there at Publishing; all others at Passing.
func TestEachEnd(t *testing.T) {
	for what, c := range ends() {
		m, x := smallWith(t, 5, 0, 0, 0), made(t, small, 1, c.p)
		stepped(t, x, m, 3)
		for i := range c.steps {
			if x.Phase() != running {
				t.Errorf("%s: Phase %d ahead of the step %d", what, x.Phase(), i)
			}
			wantStep(t, what, x, m, 0, false)
		}
		want := look{phase: passing, tag: c.p.Tag, mark: 70, steps: 3 + c.steps}
		lay := []uint64{31, 32, 33, 0, 35, 36, 37, 38}
		for at, word := range lay {
			m.Poke(at, word)
		}
		if c.end == committed {
			for _, phase := range []int{scanning, scanning, publishing} {
				want.phase = phase
				wantLook(t, what, x, want)
				wantStep(t, what, x, m, 1, false)
				want.steps++
			}
			want.phase, want.number, lay[2] = passing, 6, 6
		}
		wantLook(t, what, x, want)
		wantWords(t, what, m, lay...)
		wantStep(t, what+", passed on", x, m, 1, true)
		want.phase, want.end, want.steps, lay[1] = over, c.end, want.steps+1, 71
		wantLook(t, what, x, want)
		wantWords(t, what+", passed on", m, lay...)
	}
}

// letsBy is whether a word of the census lets a scan of that stamp by.
func letsBy(word, stamp uint64) bool { return word == 0 || word > stamp }

// P15.2, P15.3: each thread's word, 0, below, at and above the stamp that it saw (which Stamp is no more), its own thread's too: where it does not let by it is looked at again and again; those that are done with, and those behind, may be anything.
func TestScanning(t *testing.T) {
	c := api.Config{Cells: 1, Threads: 3, Fuel: 4, Writes: 1}
	for _, stamp := range stamps {
		for _, word := range []uint64{0, 1, stamp - 1, stamp, stamp + 1, stamp + 2, 1 << 32, 1 << 63, greatest} {
			for at := range c.Threads {
				for thread := range c.Threads {
					wantScan(t, c, thread, at, word, stamp)
				}
			}
		}
	}
}

// wantScan: all let by but that one, if it does not.
func wantScan(t *testing.T, c api.Config, thread, at int, word, stamp uint64) {
	t.Helper()
	what := fmt.Sprint("the thread ", thread, ", the word ", word, " at ", at, ", the stamp ", stamp)
	m, x := holding(t, 7, 7, stamp, 0, 0, 0, 2, 3, 4), made(t, c, thread, program(api.Updates, halt))
	stepped(t, x, m, 4)
	m.Poke(2, 1)
	steps := 4
	step := func(phase int) {
		t.Helper()
		words := m.All()
		wantStep(t, what, x, m, 1, false)
		steps++
		wantLook(t, what, x, look{phase: phase, tag: api.Updates, mark: 7, steps: steps})
		wantWords(t, what, m, words...)
	}
	// A claim of 0 is too old for every stamp but 0: it stands wherever the scan does not look.
	old := uint64(1)
	for done := range at {
		m.Poke(3+done, 0)
		step(scanning)
		m.Poke(3+done, old)
	}
	for behind := at + 1; behind < c.Threads; behind++ {
		m.Poke(3+behind, old)
	}
	m.Poke(3+at, word)
	last := publishing
	if at < c.Threads-1 {
		last = scanning
	}
	if letsBy(word, stamp) {
		step(last)
		return
	}
	for range 4 {
		step(scanning)
	}
	m.Poke(3+at, stamp)
	step(scanning)
	m.Poke(3+at, stamp+1)
	step(last)
}

// P15.2: as many threads as there are are scanned, no fewer and no more: a version that stands behind the last one's word holds nobody up.
func TestAllThreadsAreScanned(t *testing.T) {
	for threads := 1; threads <= 8; threads++ {
		c := api.Config{Cells: 1, Threads: threads, Fuel: 4, Writes: 1}
		m, x := filled(t, placed(t, c).Words), made(t, c, 0, sets())
		for at := range threads {
			m.Poke(3+at, 1)
		}
		m.Poke(3+threads, 1)
		steppedTo(t, x, m, scanning)
		for at := range threads {
			for range 3 {
				wantStep(t, "a scan", x, m, 1, false)
			}
			if x.Phase() != scanning {
				t.Errorf("%d threads: Phase %d at %d", threads, x.Phase(), at)
			}
			m.Poke(3+at, uint64(at%2)*2000)
			wantStep(t, "a scan", x, m, 1, false)
		}
		if x.Phase() != writing || x.Deed().Steps != 3+4+4*threads {
			t.Errorf("%d threads: %+v", threads, lookAt(x))
		}
	}
}
