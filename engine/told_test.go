package engine_test

import (
	"fmt"
	"slices"
	"testing"

	"beadle/api"
)

// P16.4, P16.5: all that is told ahead of each step of an updater, and behind its last one; asked as often as one likes.
func TestToldOfAnUpdater(t *testing.T) {
	s := api.Setup{Config: api.Config{Cells: 2, Threads: 2, Fuel: 20, Writes: 2}, Start: []float64{3, minus0}, Threads: [][]api.Call{nil, {call(0, 4, of(odd[0]))}},
		Programs: []api.Program{program(api.Updates, push(1), read, emit, in(api.OpArg, 0), push(0), write, push(7), push(1), write, push(0), read, emit, halt)}}
	e, three, four, seven := made(t, s), bitsOf(3), bitsOf(4), bitsOf(7)
	d := api.Deed{Thread: 1, Tag: api.Updates, Args: []float64{4, of(oneNaN)}, Begun: 1}
	want := look{words: []uint64{0, 0, 0, 0, 0, 0, three, 0, 0, bitsOf(minus0), 0}, state: []float64{3, minus0}, finished: []bool{true, false}}
	store := func(at int, word uint64) { want.words[at] = word }
	then := map[int]func(){
		1:  func() { store(0, 1) },
		5:  func() { d.Reads = append(d.Reads, api.Touch{Cell: 1, X: minus0}) },
		6:  func() { d.Out = append(d.Out, minus0) },
		9:  func() { d.Writes = append(d.Writes, api.Touch{Cell: 0, X: 4}) },
		12: func() { d.Writes = append(d.Writes, api.Touch{Cell: 1, X: 7}) },
		14: func() { d.Reads = append(d.Reads, api.Touch{Cell: 0, X: 4}) },
		15: func() { d.Out = append(d.Out, 4) },
		19: func() { store(7, three) },
		20: func() { store(5, 1) },
		21: func() { store(6, four) },
		22: func() { store(10, bitsOf(minus0)) },
		23: func() { store(8, 1) },
		24: func() { store(9, seven) },
		25: func() { store(2, 1); d.Number, want.state = 1, []float64{4, 7} },
		26: func() { store(1, 1); d.End, d.Ended, want.over, want.finished[1] = committed, 26, true, true },
	}
	free := []int{4, 6, 7, 8, 10, 11, 13, 14, 15, 16}
	for i := range 27 {
		if then[i] != nil {
			then[i]()
		}
		if i > 0 {
			d.Steps, d.To = i, i
			want.deeds = []api.Deed{d}
		}
		want.steps, want.rounds = i, i
		if i > 0 && !slices.Contains(free, i) {
			want.count++
		}
		for range 2 {
			wantLook(t, fmt.Sprint("behind ", i, " steps"), e, want)
		}
		if is, _ := e.Step(1); is != (i < 26) {
			t.Errorf("step %d: %v", i+1, is)
		}
	}
}

// P16.4, P16.5: all that is told ahead of each step of a reader, and behind its last one. Another thread has calls and is never stepped, so no round is over till it has begun.
func TestToldOfAReader(t *testing.T) {
	s := chapters()
	s.Start, s.Threads[1] = []float64{of(odd[5])}, []api.Call{call(1, minus0)}
	e, nan := made(t, s), of(oneNaN)
	d := api.Deed{Thread: 1, Program: 1, Tag: api.Reads, Args: []float64{minus0}, Mark: -1, Begun: 1}
	want := look{words: []uint64{0, 0, 0, 0, 0, 0, oneNaN, 0}, state: []float64{nan}, finished: []bool{false, false}}
	then := map[int]func(){
		2:  func() { want.words[4] = 1 },
		3:  func() { d.Mark = 0 },
		7:  func() { d.Reads = []api.Touch{{Cell: 0, X: nan}} },
		8:  func() { d.Out = []float64{nan} },
		10: func() { want.words[4], d.End, d.Ended, want.finished[1] = 0, committed, 10, true },
	}
	for i := range 11 {
		if then[i] != nil {
			then[i]()
		}
		if i > 0 {
			d.Steps = i
			want.deeds = []api.Deed{d}
		}
		want.steps, want.count = i, []int{0, 1, 2, 3, 3, 4, 5, 6, 6, 6, 7}[i]
		wantLook(t, fmt.Sprint("behind ", i, " steps"), e, want)
		if is, _ := e.Step(1); is != (i < 10) {
			t.Errorf("step %d: %v", i+1, is)
		}
	}
	ran(t, e, 0)
	if e.Rounds() != 1 || e.Deeds()[0].To != 0 || e.Deeds()[1].From != 0 || e.Deeds()[1].To != 1 {
		t.Errorf("%d rounds, %+v", e.Rounds(), e.Deeds())
	}
}

// P16.4: State while an updater is at each of its stores: what it has stored it has not published, till it has; then also what others have seen since.
func TestStateAtEachStore(t *testing.T) {
	both := program(api.Updates, in(api.OpArg, 0), push(0), write, in(api.OpArg, 1), push(2), write, halt)
	s := api.Setup{Config: api.Config{Cells: 3, Threads: 1, Fuel: 20, Writes: 2}, Start: []float64{1, 2, 3}, Programs: []api.Program{both},
		Threads: [][]api.Call{{call(0, minus0, of(odd[0])), call(0, 8, 9), call(0, 8, 0)}}}
	e := made(t, s)
	states := [][]float64{{1, 2, 3}, {minus0, 2, of(oneNaN)}, {8, 2, 9}, {8, 2, 0}}
	// 3 steps ahead of the program, 7 of it, 1 of the scan, 6 stores: the next one publishes, and then it passes on.
	for i := range 3 * 19 {
		wantState(t, fmt.Sprint("behind ", i, " steps"), e, states[(i+1)/19]...)
		ran(t, e, 0)
	}
	wantState(t, "at the end", e, states[3]...)
}

// P16.4: Count and Steps count what all threads did; Rounds ends with the last thread.
func TestCounts(t *testing.T) {
	e := finish(t, made(t, chapters()))
	steps, count := 0, 0
	for _, d := range e.Deeds() {
		steps += d.Steps
	}
	by := made(t, chapters())
	for i := range tillOver(t, by) {
		was := by.Count()
		if is, _ := by.Step(i % 2); is {
			count += by.Count() - was
		}
	}
	if e.Steps() != steps || e.Count() != count || by.Count() != count || count > steps || count == 0 {
		t.Errorf("%d steps, %d accesses, want %d, %d", e.Steps(), e.Count(), steps, count)
	}
}

// P16.4: who has finished, and whether all have, behind each step of three threads, of which one has nothing to do.
func TestFinished(t *testing.T) {
	s := chapters()
	s.Config.Threads, s.Threads = 3, [][]api.Call{{call(1)}, nil, {call(1), call(1)}}
	e := made(t, s)
	want := func(zero, two bool) {
		t.Helper()
		for thread, is := range []bool{zero, true, two} {
			if got, fault := e.Finished(thread); got != is || fault != api.OK {
				t.Errorf("behind %d steps: Finished(%d) = %v, %d", e.Steps(), thread, got, fault)
			}
		}
		if e.Over() != (zero && two) {
			t.Errorf("behind %d steps: Over = %v", e.Steps(), e.Over())
		}
	}
	want(false, false)
	for range 9 {
		ran(t, e, 0)
		want(false, false)
	}
	ran(t, e, 0)
	want(true, false)
	for range 19 {
		ran(t, e, 2)
		want(true, false)
	}
	ran(t, e, 2)
	want(true, true)
}

// P16.5: the order of the deeds is that in which they began, not that of threads, tickets or ends; what has not begun is not among them.
func TestOrderOfDeeds(t *testing.T) {
	s := chapters()
	s.Config.Threads, s.Threads = 4, [][]api.Call{{call(0), call(1)}, {call(1), call(0)}, {call(0)}, {call(1)}}
	e := made(t, s)
	for i, thread := range []int{2, 1, 0} {
		if len(e.Deeds()) != i {
			t.Errorf("%d deeds, want %d", len(e.Deeds()), i)
		}
		ran(t, e, thread)
	}
	for range 60 {
		e.Step(1)
		e.Step(2)
		e.Step(0)
	}
	finish(t, e)
	var got [][4]int
	for i, d := range e.Deeds() {
		got = append(got, [4]int{d.Thread, d.No, d.Program, d.Mark})
		if i > 0 && d.Begun <= e.Deeds()[i-1].Begun {
			t.Errorf("the deed %d began with step %d", i, d.Begun)
		}
	}
	if len(got) != 6 || got[0] != [4]int{2, 0, 0, 0} || got[1] != [4]int{1, 0, 1, 0} || got[2] != [4]int{0, 0, 0, 1} || got[5] != [4]int{3, 0, 1, 3} {
		t.Errorf("the deeds: %v", got)
	}
}

// P16.5: each end that there is, of readers and updaters; the end, and the step of it, are told only when it is over.
func TestEnds(t *testing.T) {
	codes := []struct {
		code []api.Instr
		end  api.End
	}{
		{[]api.Instr{halt}, committed},
		{[]api.Instr{in(api.OpRet, 0)}, committed},
		{[]api.Instr{in(api.OpAbort, 0)}, api.End{How: api.Aborted}},
		{[]api.Instr{in(api.OpAbort, 99)}, api.End{How: api.Aborted, Code: 99}},
		{[]api.Instr{in(api.OpJump, 0)}, failed(api.ErrFuel)},
		{[]api.Instr{push(1), read}, failed(api.ErrBadProgram)},
		{[]api.Instr{push(1)}, failed(api.ErrBadProgram)},
		{[]api.Instr{in(api.OpDrop, 0)}, failed(api.ErrStack)},
	}
	for _, tag := range []int{api.Reads, api.Updates} {
		for _, c := range codes {
			wantEnd(t, program(tag, c.code...), c.end)
		}
	}
	wantEnd(t, program(api.Reads, push(0), push(0), write, halt), failed(api.ErrReadOnlyWrite))
	wantEnd(t, program(api.Updates, push(0), push(0), write, push(0), push(1), write, halt), failed(api.ErrBadProgram))
	two := api.Setup{Config: api.Config{Cells: 2, Threads: 1, Fuel: 20, Writes: 1}, Threads: [][]api.Call{{call(0)}},
		Programs: []api.Program{program(api.Updates, push(6), push(0), write, push(0), push(1), write, halt)}}
	wantDeed(t, "too many writes", finish(t, made(t, two)), 0, api.Deed{Tag: api.Updates, Writes: []api.Touch{{X: 6}}, End: failed(api.ErrTooManyWrites), Begun: 1, Ended: 10, Steps: 10, To: 10})
}

func wantEnd(t *testing.T, p api.Program, end api.End) {
	t.Helper()
	s := api.Setup{Config: small, Programs: []api.Program{p}, Threads: [][]api.Call{{call(0), call(0)}}}
	e := made(t, s)
	for ran(t, e, 0); len(e.Deeds()) == 1; ran(t, e, 0) {
		d := e.Deeds()[0]
		if d.Ended != 0 && (d.End != end || d.Ended != e.Steps()) || d.Ended == 0 && d.End != (api.End{}) {
			t.Errorf("%+v, behind %d steps: %+v", p, e.Steps(), d)
		}
	}
	finish(t, e)
	l := e.Deeds()
	if l[0].End != end || l[1].End != end || l[0].Ended+1 != l[1].Begun || l[1].Ended != e.Steps() {
		t.Errorf("%+v: %+v", p, l)
	}
	published := 0
	if p.Tag == api.Updates && end == committed {
		published = 1
	}
	if l[0].Number != published || l[1].Number != 2*published {
		t.Errorf("%+v: Numbers %d, %d", p, l[0].Number, l[1].Number)
	}
}

// P16.5: how many are ahead: nobody, several, and fewer again once some have passed on; of a reader none, whoever draws.
func TestAhead(t *testing.T) {
	s := chapters()
	s.Config.Threads = 8
	s.Threads = slices.Repeat([][]api.Call{{call(0), call(0)}}, 7)
	s.Threads = append(s.Threads, []api.Call{call(1)})
	e := made(t, s)
	ran(t, e, 3, 5, 7, 0, 1, 2, 4, 6)
	want := func(aheads ...int) {
		t.Helper()
		var got []int
		for _, d := range e.Deeds() {
			got = append(got, d.Ahead)
		}
		if !slices.Equal(got, aheads) {
			t.Errorf("behind %d steps: Ahead %d, want %d", e.Steps(), got, aheads)
		}
	}
	want(0, 1, 0, 2, 3, 4, 5, 6)
	ran(t, e, times(9, 7)...)
	ran(t, e, times(19, 3)...)
	ran(t, e, 3)
	want(0, 1, 0, 2, 3, 4, 5, 6, 6)
	for _, thread := range []int{5, 0, 1, 2, 4} {
		ran(t, e, times(19, thread)...)
	}
	ran(t, e, 5)
	want(0, 1, 0, 2, 3, 4, 5, 6, 6, 2)
	ran(t, e, times(19, 6)...)
	ran(t, e, times(19, 3)...)
	ran(t, e, times(19, 5)...)
	ran(t, e, 2)
	want(0, 1, 0, 2, 3, 4, 5, 6, 6, 2, 0)
	for _, d := range e.Deeds() {
		if d.Program == 0 && d.Ended == 0 && d.Mark != 8+1 {
			t.Errorf("under way: %+v", d)
		}
	}
}

// P16.5: Ahead stays as it was when the ticket was drawn, though others pass on meanwhile.
func TestAheadStays(t *testing.T) {
	s := chapters()
	s.Threads = [][]api.Call{{call(0)}, {call(0)}}
	e := ran(t, made(t, s), 0, 1)
	for range tillOver(t, e) {
		e.Step(0)
		e.Step(1)
		if l := e.Deeds(); l[0].Ahead != 0 || l[1].Ahead != 1 {
			t.Fatalf("behind %d steps: %+v", e.Steps(), l)
		}
	}
}

// P16.5: From and To across rounds: From stays, To goes on with the rounds till the transaction is over, then it stays too. A round that its first step ends is not in From, one that its last step ends is in To.
func TestFromAndTo(t *testing.T) {
	s := chapters()
	s.Threads = [][]api.Call{{call(1), call(1)}, {call(1), call(1)}}
	e := made(t, s)
	want := func(ends ...[2]int) {
		t.Helper()
		var got [][2]int
		for _, d := range e.Deeds() {
			got = append(got, [2]int{d.From, d.To})
		}
		if !slices.Equal(got, ends) {
			t.Errorf("behind %d steps, %d rounds: %d, want %d", e.Steps(), e.Rounds(), got, ends)
		}
	}
	ran(t, e, 0)
	want([2]int{0, 0})
	ran(t, e, 1)
	want([2]int{0, 1}, [2]int{0, 1})
	ran(t, e, 0, 0, 1, 1, 0)
	want([2]int{0, 3}, [2]int{0, 3})
	ran(t, e, 0, 0, 0, 0, 0, 0)
	want([2]int{0, 3}, [2]int{0, 3})
	ran(t, e, 0)
	want([2]int{0, 3}, [2]int{0, 3}, [2]int{3, 3})
	ran(t, e, 1)
	want([2]int{0, 3}, [2]int{0, 4}, [2]int{3, 4})
	ran(t, e, 1, 0, 0, 1, 1, 0, 1)
	want([2]int{0, 3}, [2]int{0, 7}, [2]int{3, 7})
	ran(t, e, 1, 0)
	want([2]int{0, 3}, [2]int{0, 8}, [2]int{3, 8})
	ran(t, e, 0, 1)
	want([2]int{0, 3}, [2]int{0, 9}, [2]int{3, 9})
	ran(t, e, 1, 1)
	want([2]int{0, 3}, [2]int{0, 9}, [2]int{3, 9}, [2]int{9, 9})
	ran(t, e, 0)
	want([2]int{0, 3}, [2]int{0, 9}, [2]int{3, 10}, [2]int{9, 10})
	ran(t, e, 0, 0, 0)
	ran(t, e, times(8, 1)...)
	if !e.Over() {
		t.Errorf("not over: %+v", e.Deeds())
	}
	// Thread 0 ends in the midst of a round; from then on each step of the other one is a round.
	want([2]int{0, 3}, [2]int{0, 9}, [2]int{3, 10}, [2]int{9, 18})
}

// busy is a setup in which threads of all kinds are under way at once.
func busy() api.Setup {
	return api.Setup{
		Config: api.Config{Cells: 2, Threads: 3, Fuel: 30, Writes: 2},
		Start:  []float64{1, 2},
		Programs: []api.Program{
			program(api.Updates, push(0), read, emit, in(api.OpArg, 0), push(0), write, in(api.OpArg, 1), push(1), write, push(1), read, emit, halt),
			program(api.Reads, push(0), read, emit, in(api.OpArg, 0), emit, push(1), read, emit, halt),
			program(api.Updates, push(0), read, emit, push(1), push(1), write, in(api.OpAbort, 7)),
		},
		Threads: [][]api.Call{{call(0, 4, 5), call(1, 6)}, {call(1, 7), call(2, 8), call(0, 9, 10)}, {call(2), call(0, 11), call(1)}},
	}
}

// R4: what was answered is the caller's own: no list shares anything with the engine, another answer or another list of the same one.
func TestToldIsTheCallersOwn(t *testing.T) {
	e := made(t, busy())
	by := rule(3)
	for range tillOver(t, e) {
		e.Step(by.below(3))
		was, l := lookAt(e), e.Deeds()
		for i := range l {
			for _, spoilOne := range []func(d *api.Deed){
				func(d *api.Deed) { spoil(d.Args, 99); d.Args = was.deeds[i].Args },
				func(d *api.Deed) { spoil(d.Out, 99); d.Out = was.deeds[i].Out },
				func(d *api.Deed) { spoil(d.Reads, api.Touch{Cell: 99, X: 99}); d.Reads = was.deeds[i].Reads },
				func(d *api.Deed) { spoil(d.Writes, api.Touch{Cell: 99, X: 99}); d.Writes = was.deeds[i].Writes },
			} {
				spoilOne(&l[i])
				if !slices.EqualFunc(l, was.deeds, sameDeed) {
					t.Fatalf("two lists share their memory: %+v, want %+v", l, was.deeds)
				}
			}
		}
		spoil(l, api.Deed{Thread: 99})
		spoil(e.State(), 99)
		spoil(e.Words(), 99)
		wantLook(t, "spoilt", e, was)
		if t.Failed() {
			return
		}
	}
}

// R4: what was told stays as it was, whatever the engine does then.
func TestToldStays(t *testing.T) {
	e := made(t, busy())
	var told []look
	var were []string
	by := rule(4)
	for range tillOver(t, e) {
		e.Step(by.below(3))
		told = append(told, lookAt(e))
		were = append(were, fmt.Sprint(told[len(told)-1]))
	}
	for i, l := range told {
		if got := fmt.Sprint(l); got != were[i] {
			t.Errorf("behind %d steps: %s, it was %s", i, got, were[i])
		}
	}
}

// R5: what is asked changes nothing: an engine that is asked all the while goes as one that is never asked.
func TestAskingChangesNothing(t *testing.T) {
	asked, other := made(t, busy()), made(t, busy())
	by := rule(9)
	for range tillOver(t, other) {
		thread := by.below(3)
		other.Step(thread)
		lookAt(asked)
		asked.Clone()
		asked.Step(thread)
	}
	wantLook(t, "asked all the while", asked, lookAt(other))
}

// R5: engines of one setup have nothing to do with each other.
func TestEnginesAreApart(t *testing.T) {
	s := busy()
	a, b := made(t, s), made(t, s)
	first := lookAt(b)
	finish(t, a)
	wantLook(t, "the other one", b, first)
	wantLook(t, "then the other one", finish(t, b), lookAt(a))
}
