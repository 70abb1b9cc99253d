package reader_test

import (
	"fmt"
	"slices"
	"testing"

	"beadle/api"
	"beadle/cells"
	"beadle/census"
	"beadle/mem"
	"beadle/reader"
)

// P14.3, P14.4: what is told ahead of each step and behind the last one, of a program that has something of everything; asked as often as one likes, and not changed by steps that are refused.
func TestToldAheadOfEachStep(t *testing.T) {
	m, short, x := busyMem(t), filled(t, 14), made(t, busyConfig, 1, busy(), 4, of(odd[0]))
	want := look{phase: coming, tag: api.Updates, mark: -1, args: []uint64{bitsOf(4), oneNaN}}
	then := map[int]func(){
		3:  func() { want.phase, want.mark = running, 9 },
		7:  func() { want.reads = append(want.reads, touch{0, bitsOf(10)}) },
		8:  func() { want.out = append(want.out, bitsOf(10)) },
		11: func() { want.writes = append(want.writes, touch{1, bitsOf(5)}) },
		13: func() { want.reads = append(want.reads, touch{1, bitsOf(5)}) },
		14: func() { want.out = append(want.out, bitsOf(5)) },
		17: func() { want.reads = append(want.reads, touch{2, bitsOf(15)}) },
		20: func() { want.out = append(want.out, bitsOf(4)) },
		23: func() { want.writes = []touch{{1, bitsOf(8)}} },
		26: func() { want.reads = append(want.reads, touch{2, bitsOf(15)}) },
		27: func() { want.phase = leaving },
		28: func() { want.phase, want.end = over, committed },
	}
	for i := 0; ; i++ {
		if then[i] != nil {
			then[i]()
		}
		want.steps = i
		for range 2 {
			wantLook(t, fmt.Sprint("ahead of the step ", i), x, want)
			wantNoStep(t, fmt.Sprint("ahead of the step ", i), x, short, api.ErrPlace)
		}
		if x.Phase() == over {
			break
		}
		wantStepOK(t, x, m)
	}
	if x.Deed().Steps != 28 {
		t.Errorf("%d steps", x.Deed().Steps)
	}
	for range 3 {
		wantNoStep(t, "over", x, m, api.ErrState)
		wantLook(t, "over", x, want)
	}
}

// P14.4: the mark is the stamp, not the claim, of each that an int holds; 0 is one, too, unlike none.
func TestMark(t *testing.T) {
	for _, stamp := range stamps {
		m, x := smallWith(t, 77, 0, 0, 0), made(t, small, 0, program(api.Reads, halt))
		stepped(t, x, m, 2)
		m.Poke(2, stamp)
		for x.Phase() != over {
			wantStepOK(t, x, m)
			m.Poke(2, 78)
			if got := x.Deed().Mark; got != int(stamp) {
				t.Errorf("the stamp %d: Mark %d", stamp, got)
			}
		}
	}
}

// P14.4: what was written is told however it ended, also a write of a transaction that aborted.
func TestWritesOfOneThatAborted(t *testing.T) {
	m := smallWith(t, 3, 2, bitsOf(7), bitsOf(6))
	x := finished(t, made(t, small, 0, program(api.Updates, push(1), push(0), write, push(minus0), push(0), write, in(api.OpAbort, 5))), m, small)
	wantLook(t, "aborted", x, look{phase: over, tag: api.Updates, mark: 3, end: api.End{How: api.Aborted, Code: 5}, steps: 11, writes: []touch{{0, bitsOf(minus0)}}})
	wantMem(t, "aborted", m, []uint64{70, 71, 3, 0, 74, 2, bitsOf(7), bitsOf(6)}, false, 4)
}

// P14.4: as many numbers as there may be: 1024 instructions, the half of which emit.
func TestALongOut(t *testing.T) {
	var code []api.Instr
	var out []uint64
	for i := range 511 {
		code = append(code, push(float64(i)), emit)
		out = append(out, bitsOf(float64(i)))
	}
	x := finished(t, made(t, wide, 3, program(api.Reads, append(code, halt)...)), filled(t, 779), wide)
	wantLook(t, "511 numbers", x, look{phase: over, tag: api.Reads, mark: 1002, end: committed, steps: 3 + 1023 + 1, out: out})
}

// spoil lays another thing wherever a list, or its spare room, has one.
func spoil[T any](l []T, x T) {
	l = l[:cap(l)]
	for i := range l {
		l[i] = x
	}
}

// R4: what Deed answered is the caller's own: no list shares anything with the reader, another answer or another list.
func TestToldIsTheCallersOwn(t *testing.T) {
	m, x := busyMem(t), made(t, busyConfig, 1, busy(), 1, 2, 3)
	for {
		was := lookAt(x)
		a, b := x.Deed(), x.Deed()
		for _, spoilOne := range []func(){
			func() { spoil(a.Args, 99); a.Args = b.Args },
			func() { spoil(a.Out, 99); a.Out = b.Out },
			func() { spoil(a.Reads, api.Touch{Cell: 99, X: 99}); a.Reads = b.Reads },
			func() { spoil(a.Writes, api.Touch{Cell: 99, X: 99}); a.Writes = b.Writes },
		} {
			spoilOne()
			if got := lookOf(x.Phase(), a); !got.like(was) {
				t.Errorf("two lists share their memory: %+v, want %+v", got, was)
			}
			wantLook(t, "spoilt", x, was)
		}
		if x.Phase() == over {
			break
		}
		wantStepOK(t, x, m)
	}
}

// R4: what was told stays as it was, whatever the reader does then.
func TestToldStays(t *testing.T) {
	m, x := busyMem(t), made(t, busyConfig, 1, busy(), 4)
	var told []api.Deed
	var were []string
	for {
		told, were = append(told, x.Deed()), append(were, fmt.Sprint(lookAt(x).reads, lookAt(x).writes, lookAt(x).out, lookAt(x).args))
		if x.Phase() == over {
			break
		}
		wantStepOK(t, x, m)
	}
	for i, d := range told {
		l := lookOf(0, d)
		if got := fmt.Sprint(l.reads, l.writes, l.out, l.args); got != were[i] {
			t.Errorf("behind %d steps: %s, it was %s", i, got, were[i])
		}
	}
}

// another is a memory in which all is otherwise, so that whoever goes on there reads other numbers, by other ways.
func another(t *testing.T) *mem.Mem {
	t.Helper()
	return holding(t, 50, 51, 4, 52, 53, 54, 8, bitsOf(20), bitsOf(21), 5, bitsOf(22), bitsOf(23), 9, bitsOf(24), bitsOf(25))
}

// R5: a clone behind each step, over a memory of its own: each goes on as one that was never cloned does, whichever is first.
func TestCloneOverTwoMemories(t *testing.T) {
	for behind := range 29 {
		for _, cloneFirst := range []bool{false, true} {
			what := fmt.Sprint("behind ", behind, " steps")
			x := stepped(t, made(t, busyConfig, 1, busy(), 4), busyMem(t), behind)
			alone := stepped(t, made(t, busyConfig, 1, busy(), 4), busyMem(t), behind)
			c := x.Clone()
			wantLook(t, what+", the clone", c, lookAt(x))
			other := stepped(t, made(t, busyConfig, 1, busy(), 4), busyMem(t), behind)
			goes := []func(){
				func() { wantAlike(t, what+", what was cloned", x, alone, busyMem(t)) },
				func() { wantAlike(t, what+", the clone", c, other, another(t)) },
			}
			if cloneFirst {
				slices.Reverse(goes)
			}
			was := lookAt(x)
			goes[0]()
			if cloneFirst {
				wantLook(t, what+", what was cloned", x, was)
			} else {
				wantLook(t, what+", the clone", c, was)
			}
			goes[1]()
		}
	}
}

// wantAlike lets two readers go on to their ends, each over a memory like that one: no step tells them apart.
func wantAlike(t *testing.T, what string, x, y *reader.Reader, m *mem.Mem) {
	t.Helper()
	n := m.Clone()
	for x.Phase() != over {
		wantStepOK(t, x, m)
		wantStepOK(t, y, n)
		wantLook(t, what, x, lookAt(y))
		wantMem(t, what, m, n.All(), isOpen(n), n.Count())
	}
	wantNoStep(t, what, x, m, api.ErrState)
	wantNoStep(t, what, y, m, api.ErrState)
}

// R5: a clone behind each step, over the same memory, turn by turn with what it was made of: each does what it would alone.
func TestCloneOverOneMemory(t *testing.T) {
	whole := busyMem(t)
	stepped(t, made(t, busyConfig, 1, busy(), 4), whole, 28)
	for behind := range 29 {
		m := busyMem(t)
		x := stepped(t, made(t, busyConfig, 1, busy(), 4), m, behind)
		c, d := x.Clone(), x.Clone().Clone()
		count := m.Count()
		for x.Phase() != over {
			for i, one := range []*reader.Reader{x, c, d} {
				wantStepOK(t, one, m)
				wantLook(t, fmt.Sprint("behind ", behind, " steps, ", i), one, lookAt(x))
			}
		}
		wantMem(t, fmt.Sprint("behind ", behind, " steps"), m, whole.All(), false, count+3*(whole.Count()-count))
	}
}

// R5: clones in the midst of a read: over one memory it is torn, over another one it is not, and what was loaded ahead of the clone stays loaded.
func TestCloneInTheMidstOfARead(t *testing.T) {
	end := func(steps int, x float64) look {
		return look{phase: over, tag: api.Reads, mark: 3, end: committed, steps: steps, reads: []touch{{0, bitsOf(x)}}, out: []uint64{bitsOf(x)}}
	}
	for behind, now := range map[int]float64{5: 9, 6: 7} {
		what := fmt.Sprint("behind ", behind, " steps")
		m := smallWith(t, 3, 2, bitsOf(7), bitsOf(6))
		x := stepped(t, made(t, small, 1, tells()), m, behind)
		c := x.Clone()
		m.Poke(5, 3)
		wantLook(t, what+", torn", finished(t, x, m, small), end(11, 6))
		wantLook(t, what+", its clone", finished(t, c, smallWith(t, 99, 2, bitsOf(9), bitsOf(10)), small), end(10, now))
	}
}

// The chapter's first example, step by step.
func TestExampleOfAnOlderNumber(t *testing.T) {
	m := holding(t, 0, 0, 3, 0, 0, 4, bitsOf(7), bitsOf(6))
	x := made(t, small, 1, tells())
	for i, c := range []struct{ accesses, phase, mark int }{{1, 1, -1}, {1, 1, -1}, {1, 2, 3}, {0, 2, 3}, {1, 2, 3}, {1, 2, 3}, {0, 2, 3}, {0, 3, 3}, {1, 4, 3}} {
		wantStep(t, fmt.Sprint("step ", i), x, m, c.accesses, i == 8)
		word := uint64(4)
		if i == 0 || i == 8 {
			word = 0
		}
		if v, _ := m.Peek(4); v != word || x.Phase() != c.phase || x.Deed().Mark != c.mark {
			t.Errorf("step %d: the word %d, Phase %d, Mark %d", i, v, x.Phase(), x.Deed().Mark)
		}
	}
	wantLook(t, "9 steps", x, look{phase: over, tag: api.Reads, mark: 3, end: committed, steps: 9, reads: []touch{{0, bitsOf(6)}}, out: []uint64{bitsOf(6)}})
}

// The chapter's second one: the version 2, and the version that has become 4 behind the load of Now, or ahead of it.
func TestExampleOfTheNumberNow(t *testing.T) {
	for _, c := range []struct {
		behind, steps int
		x             float64
	}{{0, 10, 7}, {5, 11, 6}, {6, 11, 6}, {7, 10, 7}} {
		m := holding(t, 0, 0, 3, 0, 0, 2, bitsOf(7), bitsOf(6))
		x := stepped(t, made(t, small, 1, tells()), m, c.behind)
		if c.behind > 0 {
			m.Poke(5, 4)
		}
		finished(t, x, m, small)
		wantLook(t, fmt.Sprint("behind ", c.behind, " steps"), x, look{phase: over, tag: api.Reads, mark: 3, end: committed, steps: c.steps, reads: []touch{{0, bitsOf(c.x)}}, out: []uint64{bitsOf(c.x)}})
	}
}

// stored does the steps of a write that are left.
func stored(m *mem.Mem, w *cells.Writing) {
	for done := false; !done; {
		m.Open()
		done, _ = w.Step(m)
	}
}

// The document's second and third examples of the whole: an updater's writes and its stamp come behind the reader's stamp, or in the midst of its read.
func TestExamplesOfAnUpdater(t *testing.T) {
	c := api.Config{Cells: 2, Threads: 2, Fuel: 20, Writes: 2}
	p := placed(t, c)
	for behind, steps := range map[int]int{3: 9, 4: 9, 5: 11, 6: 11, 7: 10} {
		m, _ := mem.New(p.Words)
		x := stepped(t, made(t, c, 0, tells()), m, behind)
		stored(m, cells.Write(p, 0, 1, 0, 5))
		stored(m, cells.Write(p, 1, 1, 0, 7))
		m.Open()
		census.Publish(m, p, 1)
		finished(t, x, m, c)
		wantLook(t, fmt.Sprint("behind ", behind, " steps"), x, look{phase: over, tag: api.Reads, end: committed, steps: steps, reads: []touch{{0, 0}}, out: []uint64{0}})
		y := finished(t, made(t, c, 1, program(api.Reads, push(0), read, push(1), read, halt)), m, c)
		wantLook(t, "a later one", y, look{phase: over, tag: api.Reads, mark: 1, end: committed, steps: 13, reads: []touch{{0, bitsOf(5)}, {1, bitsOf(7)}}})
	}
}

// The document's fourth: an updater's scan waits for the reader whose claim is too old, and for no later one; when it has left the scan goes on.
func TestExampleOfAScan(t *testing.T) {
	c := api.Config{Cells: 1, Threads: 3, Fuel: 20, Writes: 1}
	p := placed(t, c)
	m, _ := mem.New(p.Words)
	old := stepped(t, made(t, c, 1, tells()), m, 5)
	m.Open()
	census.Publish(m, p, 1)
	scan := census.Look(p, 3, 1)
	young := stepped(t, made(t, c, 2, tells()), m, 3)
	look := func(want bool, at int) {
		t.Helper()
		m.Open()
		if is, e := scan.Step(m); is != want || e != api.OK || scan.At() != at {
			t.Errorf("a scan's step: %v, %d, At %d, want %v, %d", is, e, scan.At(), want, at)
		}
	}
	look(false, 1)
	for old.Phase() != over {
		look(false, 1)
		wantStepOK(t, old, m)
	}
	look(false, 2)
	look(true, 3)
	if young.Deed().Mark != 1 || old.Deed().Mark != 0 {
		t.Errorf("marks %d, %d", young.Deed().Mark, old.Deed().Mark)
	}
}

// The document's fifth and sixth, by a reader.
func TestExamplesOfFailures(t *testing.T) {
	c := api.Config{Cells: 1, Threads: 1, Fuel: 200, Writes: 1}
	words := []uint64{0, 0, 3, 0, 2, bitsOf(7), bitsOf(6)}
	x := finished(t, made(t, c, 0, program(api.Reads, push(1), in(api.OpJump, 0))), holding(t, words...), c)
	wantLook(t, "pushes for ever", x, look{phase: over, tag: api.Reads, mark: 3, end: failed(api.ErrStack), steps: 3 + 129 + 1})
	x = finished(t, made(t, c, 0, program(api.Reads, in(api.OpJump, 0))), holding(t, words...), c)
	wantLook(t, "jumps for ever", x, look{phase: over, tag: api.Reads, mark: 3, end: failed(api.ErrFuel), steps: 3 + 201 + 1})
	x = finished(t, made(t, c, 0, program(api.Reads, push(0), read, push(0), write, halt)), holding(t, words...), c)
	wantLook(t, "writes", x, look{phase: over, tag: api.Reads, mark: 3, end: failed(api.ErrReadOnlyWrite), steps: 3 + 6 + 1, reads: []touch{{0, bitsOf(7)}}})
}
