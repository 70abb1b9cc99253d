package writer_test

import (
	"fmt"
	"slices"
	"testing"

	"beadle/api"
	"beadle/mem"
	"beadle/writer"
)

// P15.3, P15.4: what is told ahead of each step and behind the last one, of a program that has something of everything; asked as often as one likes, and not changed by steps that are refused.
func TestToldAheadOfEachStep(t *testing.T) {
	m, short, x := busyMem(t), filled(t, 14), made(t, busyConfig, 1, busy(), 4, of(odd[0]))
	want := look{phase: drawing, tag: api.Updates, mark: -1, args: []uint64{bitsOf(4), oneNaN}}
	then := map[int]func(){
		1:  func() { want.phase, want.mark = waiting, 40 },
		2:  func() { want.phase = marking },
		3:  func() { want.phase = running },
		5:  func() { want.reads = append(want.reads, touch{0, bitsOf(10)}) },
		6:  func() { want.out = append(want.out, bitsOf(10)) },
		9:  func() { want.writes = append(want.writes, touch{1, bitsOf(5)}) },
		11: func() { want.reads = append(want.reads, touch{1, bitsOf(5)}) },
		12: func() { want.out = append(want.out, bitsOf(5)) },
		14: func() { want.reads = append(want.reads, touch{2, bitsOf(14)}) },
		17: func() { want.out = append(want.out, bitsOf(4)) },
		20: func() { want.writes = []touch{{1, bitsOf(8)}} },
		23: func() { want.writes = append(want.writes, touch{0, bitsOf(9)}) },
		25: func() { want.reads = append(want.reads, touch{0, bitsOf(9)}) },
		26: func() { want.phase = scanning },
		29: func() { want.phase = writing },
		35: func() { want.phase = publishing },
		36: func() { want.phase, want.number = passing, 10 },
		37: func() { want.phase, want.end = over, committed },
	}
	for i := 0; ; i++ {
		if then[i] != nil {
			then[i]()
		}
		want.steps = i
		for range 2 {
			wantLook(t, fmt.Sprint("ahead of the step ", i), x, want)
			wantNoStep(t, fmt.Sprint("ahead of the step ", i), x, short, api.ErrPlace)
		}
		if x.Phase() == over {
			break
		}
		wantStepOK(t, x, m)
	}
	if x.Deed().Steps != busySteps {
		t.Errorf("%d steps", x.Deed().Steps)
	}
	for range 3 {
		wantNoStep(t, "over", x, m, api.ErrState)
		wantLook(t, "over", x, want)
	}
}

// P15.4: steps that wait count as all others; the mark and the number stay, whatever the words are by then.
func TestWhatIsToldStays(t *testing.T) {
	m, x := smallWith(t, 3, 2, bitsOf(7), bitsOf(6)), made(t, small, 0, sets())
	m.Poke(1, 60)
	stepped(t, x, m, 11)
	wantLook(t, "it waits", x, look{phase: waiting, tag: api.Updates, mark: 70, steps: 11})
	m.Poke(1, 70)
	m.Poke(4, 1)
	stepped(t, x, m, 20)
	told := look{phase: scanning, tag: api.Updates, mark: 70, steps: 31, writes: []touch{{0, bitsOf(5)}}}
	wantLook(t, "it scans", x, told)
	m.Poke(4, 0)
	steppedTo(t, x, m, passing)
	for at := range 8 {
		m.Poke(at, 88)
	}
	told.phase, told.number, told.steps = passing, 4, 36
	wantLook(t, "it passes on", x, told)
	stepped(t, x, m, 1)
	told.phase, told.end, told.steps = over, committed, 37
	wantLook(t, "it is over", x, told)
}

// P15.4: what was written is told however it ended, also a write of a transaction that aborted or failed: it has no Number.
func TestWritesOfOneThatIsNotCommitted(t *testing.T) {
	for _, c := range []struct {
		last api.Instr
		end  api.End
	}{{in(api.OpAbort, 5), api.End{How: api.Aborted, Code: 5}}, {in(api.OpDrop, 0), failed(api.ErrStack)}, {in(api.OpGet, 0), failed(api.ErrBadProgram)}} {
		m := smallWith(t, 3, 2, bitsOf(7), bitsOf(6))
		x := finished(t, made(t, small, 0, program(api.Updates, push(1), push(0), write, push(minus0), push(0), write, c.last)), m)
		steps := 11
		if c.last.Op == api.OpGet {
			steps = 12
		}
		wantLook(t, fmt.Sprint(c.end), x, look{phase: over, tag: api.Updates, mark: 70, end: c.end, steps: steps, writes: []touch{{0, bitsOf(minus0)}}})
		wantMem(t, fmt.Sprint(c.end), m, []uint64{71, 71, 3, 0, 0, 2, bitsOf(7), bitsOf(6)}, false, 5)
	}
}

// P15.4: as many numbers as there may be: 1024 instructions, the half of which emit.
func TestALongOut(t *testing.T) {
	var code []api.Instr
	var out []uint64
	for i := range 511 {
		code = append(code, push(float64(i)), emit)
		out = append(out, bitsOf(float64(i)))
	}
	x := finished(t, made(t, wide, 3, program(api.Updates, append(code, halt)...)), filled(t, 779))
	wantLook(t, "511 numbers", x, look{phase: over, tag: api.Updates, mark: 1000, number: 1003, end: committed, steps: 3 + 1023 + 8 + 2, out: out})
}

// spoil lays another thing wherever a list, or its spare room, has one.
func spoil[T any](l []T, x T) {
	l = l[:cap(l)]
	for i := range l {
		l[i] = x
	}
}

// R4: what Deed answered is the caller's own: no list shares anything with the updater, another answer or another list; what is written in the end is what it was.
func TestToldIsTheCallersOwn(t *testing.T) {
	m, x := busyMem(t), made(t, busyConfig, 1, busy(), 1, 2, 3)
	for {
		was := lookAt(x)
		a, b := x.Deed(), x.Deed()
		for _, spoilOne := range []func(){
			func() { spoil(a.Args, 99); a.Args = b.Args },
			func() { spoil(a.Out, 99); a.Out = b.Out },
			func() { spoil(a.Reads, api.Touch{Cell: 99, X: 99}); a.Reads = b.Reads },
			func() { spoil(a.Writes, api.Touch{Cell: 99, X: 99}); a.Writes = b.Writes },
		} {
			spoilOne()
			if got := lookOf(x.Phase(), a); !got.like(was) {
				t.Errorf("two lists share their memory: %+v, want %+v", got, was)
			}
			wantLook(t, "spoilt", x, was)
		}
		if x.Phase() == over {
			break
		}
		wantStepOK(t, x, m)
	}
	wantWords(t, "spoilt", m, 41, 41, 10, 0, 10, 44, 10, bitsOf(9), bitsOf(10), 10, bitsOf(8), bitsOf(12), 8, bitsOf(14), bitsOf(15))
}

// R4: what was told stays as it was, whatever the updater does then.
func TestToldStays(t *testing.T) {
	m, x := busyMem(t), made(t, busyConfig, 1, busy(), 4)
	var told []api.Deed
	var were []string
	for {
		told, were = append(told, x.Deed()), append(were, fmt.Sprint(lookAt(x).reads, lookAt(x).writes, lookAt(x).out, lookAt(x).args))
		if x.Phase() == over {
			break
		}
		wantStepOK(t, x, m)
	}
	for i, d := range told {
		l := lookOf(0, d)
		if got := fmt.Sprint(l.reads, l.writes, l.out, l.args); got != were[i] {
			t.Errorf("behind %d steps: %s, it was %s", i, got, were[i])
		}
	}
}

// another is a memory in which all is otherwise, so that whoever goes on there reads other numbers; but whoever has the ticket 40 or draws there is served, and no claim is too old.
func another(t *testing.T) *mem.Mem {
	t.Helper()
	return holding(t, 40, 40, 20, 51, 0, 52, 8, bitsOf(20), bitsOf(21), 5, bitsOf(22), bitsOf(23), 9, bitsOf(24), bitsOf(25))
}

// R5: a clone behind each step, over a memory of its own: each goes on as one that was never cloned does, whichever is first.
func TestCloneOverTwoMemories(t *testing.T) {
	for behind := range busySteps + 1 {
		for _, cloneFirst := range []bool{false, true} {
			what := fmt.Sprint("behind ", behind, " steps")
			m := busyMem(t)
			x := stepped(t, made(t, busyConfig, 1, busy(), 4), m, behind)
			alone := stepped(t, made(t, busyConfig, 1, busy(), 4), busyMem(t), behind)
			c := x.Clone()
			wantLook(t, what+", the clone", c, lookAt(x))
			other := stepped(t, made(t, busyConfig, 1, busy(), 4), busyMem(t), behind)
			goes := []func(){
				func() { wantAlike(t, what+", what was cloned", x, alone, m.Clone()) },
				func() { wantAlike(t, what+", the clone", c, other, another(t)) },
			}
			if cloneFirst {
				slices.Reverse(goes)
			}
			was := lookAt(x)
			goes[0]()
			if cloneFirst {
				wantLook(t, what+", what was cloned", x, was)
			} else {
				wantLook(t, what+", the clone", c, was)
			}
			goes[1]()
		}
	}
}

// wantAlike lets two updaters go on to their ends, each over a memory like that one: no step tells them apart.
func wantAlike(t *testing.T, what string, x, y *writer.Writer, m *mem.Mem) {
	t.Helper()
	n := m.Clone()
	for x.Phase() != over {
		wantStepOK(t, x, m)
		wantStepOK(t, y, n)
		wantLook(t, what, x, lookAt(y))
		wantMem(t, what, m, n.All(), isOpen(n), n.Count())
	}
	wantNoStep(t, what, x, m, api.ErrState)
	wantNoStep(t, what, y, m, api.ErrState)
}

// R5: a clone behind each step from the first on, over the same memory, turn by turn with what it was made of: each does what it would alone, and so they lay the same words, each for itself.
func TestCloneOverOneMemory(t *testing.T) {
	whole := busyMem(t)
	stepped(t, made(t, busyConfig, 1, busy(), 4), whole, busySteps)
	for behind := 1; behind <= busySteps; behind++ {
		m := busyMem(t)
		x := stepped(t, made(t, busyConfig, 1, busy(), 4), m, behind)
		c, d := x.Clone(), x.Clone().Clone()
		count := m.Count()
		for x.Phase() != over {
			for i, one := range []*writer.Writer{x, c, d} {
				wantStepOK(t, one, m)
				wantLook(t, fmt.Sprint("behind ", behind, " steps, ", i), one, lookAt(x))
			}
		}
		wantMem(t, fmt.Sprint("behind ", behind, " steps"), m, whole.All(), false, count+3*(whole.Count()-count))
	}
}

// R5: a clone ahead of Drawing draws a ticket of its own over the same memory, and comes behind the other one.
func TestCloneAheadOfDrawing(t *testing.T) {
	m := smallWith(t, 3, 2, bitsOf(7), bitsOf(6))
	x := made(t, small, 1, sets())
	c := x.Clone()
	stepped(t, c, m, 1)
	stepped(t, x, m, 1)
	for range 5 {
		wantStep(t, "it waits", x, m, 1, false)
	}
	finished(t, c, m)
	finished(t, x, m)
	want := look{phase: over, tag: api.Updates, mark: 70, number: 4, end: committed, steps: 14, writes: []touch{{0, bitsOf(5)}}}
	wantLook(t, "the clone", c, want)
	want.mark, want.number, want.steps = 71, 5, 19
	wantLook(t, "what was cloned", x, want)
}

// R5: clones behind a first write: what each further cell had is each one's own, in whichever order they go on.
func TestCloneBehindFirstWrites(t *testing.T) {
	c := api.Config{Cells: 8, Threads: 1, Fuel: 60, Writes: 8}
	p := placed(t, c)
	for behind := range 8 {
		what := fmt.Sprint("behind ", behind, " first writes")
		m := filled(t, p.Words)
		x := stepped(t, made(t, c, 0, writesAll([]int{0, 1, 2, 3, 4, 5, 6, 7})), m, 3+3*behind)
		n := m.Clone()
		y := x.Clone()
		for cell := range 8 {
			n.Poke(p.Cells+3*cell+1, uint64(3000+cell))
		}
		for x.Phase() == running {
			wantStepOK(t, x, m)
			wantStepOK(t, y, n)
		}
		finished(t, y, n)
		finished(t, x, m)
		for cell := range 8 {
			mine, _ := m.Peek(p.Cells + 3*cell + 2)
			its, _ := n.Peek(p.Cells + 3*cell + 2)
			want := uint64(3000 + cell)
			if cell < behind {
				want = uint64(1000 + p.Cells + 3*cell + 1)
			}
			if mine != uint64(1000+p.Cells+3*cell+1) || its != want {
				t.Errorf("%s: what the cell %d had: %d, of the clone %d, want %d", what, cell, mine, its, want)
			}
		}
	}
}

// R5: clones in the midst of Scanning: one is held up by a claim in its own memory, the other is not; each has the words of the threads that are done with behind it.
func TestCloneInTheMidstOfScanning(t *testing.T) {
	for at := range 3 {
		what := fmt.Sprint("at the thread ", at)
		m := busyMem(t)
		x := stepped(t, made(t, busyConfig, 1, busy(), 4), m, 26+at)
		c, n := x.Clone(), m.Clone()
		n.Poke(3+at, 9)
		stepped(t, c, n, 7)
		if c.Phase() != scanning || x.Phase() != scanning || x.Deed().Steps != 26+at {
			t.Errorf("%s: %+v, %+v", what, lookAt(x), lookAt(c))
		}
		finished(t, x, m)
		n.Poke(3+at, 0)
		finished(t, c, n)
		if a, b := x.Deed().Steps, c.Deed().Steps; a != busySteps || b != busySteps+7 {
			t.Errorf("%s: %d steps, of the clone %d", what, a, b)
		}
		want := m.All()
		want[3+at] = 0
		wantWords(t, what, n, want...)
	}
}

// R5: clones in the midst of Writing: each lays just the words that are left, into its own memory.
func TestCloneInTheMidstOfWriting(t *testing.T) {
	laid := []struct {
		at   int
		word uint64
	}{{11, bitsOf(12)}, {9, 10}, {10, bitsOf(8)}, {8, bitsOf(10)}, {6, 10}, {7, bitsOf(9)}, {2, 10}, {1, 41}}
	for done := range len(laid) + 1 {
		m := busyMem(t)
		x := stepped(t, made(t, busyConfig, 1, busy(), 4), m, 29+done)
		c, n := x.Clone(), another(t)
		want := n.All()
		for _, one := range laid[done:] {
			want[one.at] = one.word
			wantStepOK(t, c, n)
			wantWords(t, fmt.Sprint("behind ", done, " words, the clone"), n, want...)
		}
		finished(t, x, m)
		wantWords(t, fmt.Sprint("behind ", done, " words"), m, 41, 41, 10, 0, 10, 44, 10, bitsOf(9), bitsOf(10), 10, bitsOf(8), bitsOf(12), 8, bitsOf(14), bitsOf(15))
	}
}
