package engine_test

import (
	"fmt"
	"math"
	"slices"
	"testing"

	"beadle/api"
	"beadle/engine"
)

func wantFault(t *testing.T, what string, s api.Setup, want api.Errno) {
	t.Helper()
	if e, fault := engine.New(s); fault != want || (e != nil) != (want == api.OK) {
		t.Errorf("%s: New = %v, %d, want %d", what, e, fault, want)
	}
}

// P16.1: configs of each of their fields: at the limits, one past them, and far off.
func TestConfigs(t *testing.T) {
	most := [4]int{256, 8, 1024, 32}
	for i := range most {
		for _, n := range []int{math.MinInt, math.MinInt32, -most[i], -1, 0, 1, 2, most[i] - 1, most[i], most[i] + 1, 1 << 31, 1 << 32, 1<<32 + 1, math.MaxInt} {
			for _, numbers := range [][4]int{{1, 1, 1, 1}, most} {
				numbers[i] = n
				want := api.OK
				if n < 1 || n > most[i] {
					want = api.ErrArg
				}
				c := api.Config{Cells: numbers[0], Threads: numbers[1], Fuel: numbers[2], Writes: numbers[3]}
				wantFault(t, fmt.Sprint(c), api.Setup{Config: c}, want)
				wantFault(t, fmt.Sprint(c, " with a call"), api.Setup{Config: c, Programs: []api.Program{tells()}, Threads: [][]api.Call{{call(0)}}}, want)
			}
		}
	}
	wantFault(t, "nothing", api.Setup{}, api.ErrArg)
}

// P16.1: Start with as many numbers as there are cells, fewer, none, and one more.
func TestStarts(t *testing.T) {
	for _, cells := range []int{1, 2, 3, 255, 256} {
		for _, c := range []struct {
			numbers int
			want    api.Errno
		}{{0, api.OK}, {1, api.OK}, {cells - 1, api.OK}, {cells, api.OK}, {cells + 1, api.ErrArg}, {cells + 2, api.ErrArg}, {1000, api.ErrArg}} {
			s := chapters()
			s.Config.Cells, s.Start = cells, make([]float64, c.numbers)
			wantFault(t, fmt.Sprint(cells, " cells, ", c.numbers, " numbers"), s, c.want)
		}
	}
}

// P16.1: as many programs as may be, one more, and none at all.
func TestManyPrograms(t *testing.T) {
	for n, want := range map[int]api.Errno{1: api.OK, 63: api.OK, 64: api.OK, 65: api.ErrMany, 66: api.ErrMany, 1000: api.ErrMany} {
		s := api.Setup{Config: small, Programs: slices.Repeat([]api.Program{tells()}, n)}
		wantFault(t, fmt.Sprint(n, " programs"), s, want)
		s.Threads = [][]api.Call{{call(n - 1), call(0)}}
		wantFault(t, fmt.Sprint(n, " programs with calls"), s, want)
	}
	none := api.Setup{Config: small}
	wantFault(t, "no programs", none, api.OK)
	none.Threads = [][]api.Call{{}, {}}
	wantFault(t, "no programs, no calls", none, api.OK)
	none.Threads = [][]api.Call{{}, {call(0)}}
	wantFault(t, "no programs, a call", none, api.ErrArg)
}

// P16.1: as many lists as threads, fewer, none, one more, be it empty; by the config's own number of threads.
func TestManyThreads(t *testing.T) {
	for threads := 1; threads <= 8; threads++ {
		for lists := range 11 {
			want := api.OK
			if lists > threads {
				want = api.ErrMany
			}
			s := chapters()
			s.Config.Threads, s.Threads = threads, slices.Repeat([][]api.Call{{call(1)}}, lists)
			wantFault(t, fmt.Sprint(threads, " threads, ", lists, " lists"), s, want)
			s.Threads = make([][]api.Call, lists)
			wantFault(t, fmt.Sprint(threads, " threads, ", lists, " empty lists"), s, want)
			if e, _ := engine.New(s); e != nil && threadsOf(e) != threads {
				t.Errorf("%d threads, %d lists: an engine of %d", threads, lists, threadsOf(e))
			}
		}
	}
}

// P16.1: as many calls as may be, and one more, of the first thread, of the last one, of all.
func TestManyCalls(t *testing.T) {
	for n, want := range map[int]api.Errno{0: api.OK, 1: api.OK, 63: api.OK, 64: api.OK, 65: api.ErrMany, 66: api.ErrMany, 500: api.ErrMany} {
		many := slices.Repeat([]api.Call{call(1)}, n)
		for i, threads := range [][][]api.Call{{many}, {nil, nil, many}, {many, many, many}, {{call(0)}, many, {call(0)}}} {
			s := chapters()
			s.Config.Threads, s.Threads = 3, threads
			wantFault(t, fmt.Sprint(n, " calls, ", i), s, want)
		}
	}
}

// P16.1: calls of programs that there are, and of such as there are not; of as many arguments as may be, and more; wherever the call stands.
func TestCalls(t *testing.T) {
	faults := map[int]api.Errno{math.MinInt: api.ErrArg, math.MinInt32: api.ErrArg, -2: api.ErrArg, -1: api.ErrArg, 0: api.OK, 1: api.OK, 2: api.OK, 3: api.ErrArg, 4: api.ErrArg, 64: api.ErrArg, 1 << 32: api.ErrArg, 1<<32 + 1: api.ErrArg, math.MaxInt: api.ErrArg}
	for n, want := range faults {
		wantCall(t, fmt.Sprint("the program ", n), call(n), want)
	}
	for n, want := range map[int]api.Errno{0: api.OK, 1: api.OK, 7: api.OK, 8: api.OK, 9: api.ErrArg, 10: api.ErrArg, 100: api.ErrArg} {
		wantCall(t, fmt.Sprint(n, " arguments"), call(2, make([]float64, n)...), want)
	}
}

func wantCall(t *testing.T, what string, one api.Call, want api.Errno) {
	t.Helper()
	many := slices.Repeat([]api.Call{call(0)}, 63)
	for i, threads := range [][][]api.Call{{{one}}, {{}, {one}}, {{call(0), one, call(1)}, many}, {many, append(slices.Clone(many), one)}} {
		s := chapters()
		s.Programs, s.Threads = append(s.Programs, program(9)), threads
		wantFault(t, fmt.Sprint(what, ", ", i), s, want)
	}
}

// P16.1: where several errors apply, which one comes first: each two of all that may be wrong, in either order.
func TestFirstFault(t *testing.T) {
	wrongs := []struct {
		what  string
		rank  int
		fault api.Errno
		do    func(s *api.Setup)
	}{
		{"Cells", 0, api.ErrArg, func(s *api.Setup) { s.Config.Cells = 257 }},
		{"Threads", 0, api.ErrArg, func(s *api.Setup) { s.Config.Threads = 0 }},
		{"Fuel", 0, api.ErrArg, func(s *api.Setup) { s.Config.Fuel = -1 }},
		{"Writes", 0, api.ErrArg, func(s *api.Setup) { s.Config.Writes = 33 }},
		{"Start", 0, api.ErrArg, func(s *api.Setup) { s.Start = make([]float64, 300) }},
		{"programs", 1, api.ErrMany, func(s *api.Setup) { s.Programs = make([]api.Program, 65) }},
		{"lists", 1, api.ErrMany, func(s *api.Setup) { s.Threads = append(s.Threads, make([][]api.Call, 9)...) }},
		{"calls", 1, api.ErrMany, func(s *api.Setup) { s.Threads[1] = append(s.Threads[1], make([]api.Call, 64)...) }},
		{"a program", 2, api.ErrArg, func(s *api.Setup) { s.Threads[0] = append(s.Threads[0], call(-1)) }},
		{"arguments", 2, api.ErrArg, func(s *api.Setup) {
			s.Threads[0] = append([]api.Call{call(0, make([]float64, 9)...)}, s.Threads[0]...)
		}},
	}
	for i, a := range wrongs {
		for j, b := range wrongs {
			s := chapters()
			a.do(&s)
			want := a.fault
			if i != j {
				b.do(&s)
			}
			if b.rank < a.rank {
				want = b.fault
			}
			wantFault(t, fmt.Sprint(a.what, " and ", b.what), s, want)
		}
	}
	all := chapters()
	for _, w := range wrongs {
		w.do(&all)
	}
	wantFault(t, "all of them", all, api.ErrArg)
}

// P16.1: programs that may not be run are taken, and fail by themselves: an updater by its turn, any other in the census.
func TestProgramsThatMayNotBe(t *testing.T) {
	codes := map[string][]api.Instr{
		"no code":    nil,
		"too long":   slices.Repeat([]api.Instr{halt}, 1025),
		"op 0":       {in(0, 0), halt},
		"op 21":      {halt, in(21, 0)},
		"jump away":  {in(api.OpJump, 2), halt},
		"arg 8":      {in(api.OpArg, 8), halt},
		"abort 100":  {in(api.OpAbort, 100)},
		"one of 9":   {halt, in(api.OpOne, 9)},
		"two of -1":  {halt, in(api.OpTwo, -1)},
		"call below": {halt, in(api.OpCall, -1)},
	}
	for what, code := range codes {
		wantBad(t, what, program(api.Updates, code...))
		wantBad(t, what, program(api.Reads, code...))
		wantBad(t, what, program(0, code...))
	}
	for _, tag := range []int{math.MinInt, -2, -1, 0, 3, 4, 1<<32 + 1, 1<<32 + 2, math.MaxInt} {
		wantBad(t, fmt.Sprint("the tag ", tag), program(tag, push(0), halt))
	}
	wantBad(t, "nothing", api.Program{})
}

func wantBad(t *testing.T, what string, p api.Program) {
	t.Helper()
	e := made(t, api.Setup{Config: small, Programs: []api.Program{p}, Threads: [][]api.Call{nil, {call(0)}}})
	ran(t, e, 1, 1, 1)
	if p.Tag == api.Updates {
		wantWords(t, what+", it has its turn", e, 1, 0, 0, 0, 0, 0, 0, 0)
	} else {
		wantWords(t, what+", it has come", e, 0, 0, 0, 0, 1, 0, 0, 0)
	}
	ran(t, e, 1, 1)
	wantDeed(t, what, e, 0, api.Deed{Thread: 1, Tag: p.Tag, End: failed(api.ErrBadProgram), Begun: 1, Ended: 5, Steps: 5, To: 5})
	if !e.Over() {
		t.Errorf("%s: not over", what)
	}
}

// P16.1, R6: the words behind New: all 0, but that each Now has its number's bits, fixed.
func TestWordsAtFirst(t *testing.T) {
	for _, c := range []api.Config{{Cells: 1, Threads: 1, Fuel: 1, Writes: 1}, {Cells: 5, Threads: 3, Fuel: 9, Writes: 2}, {Cells: 30, Threads: 2, Fuel: 9, Writes: 2}, {Cells: 256, Threads: 8, Fuel: 1024, Writes: 32}} {
		for _, numbers := range []int{0, 1, c.Cells / 2, c.Cells} {
			s := api.Setup{Config: c}
			want := make([]uint64, 3+c.Threads+3*c.Cells)
			state := make([]float64, c.Cells)
			for i := range numbers {
				x := of(odd[i%len(odd)])
				s.Start = append(s.Start, x)
				want[3+c.Threads+3*i+1] = fixed(x)
				state[i] = of(fixed(x))
			}
			what := fmt.Sprint(c, " with ", numbers, " numbers")
			e := made(t, s)
			wantWords(t, what, e, want...)
			wantLook(t, what, e, look{words: want, state: state, over: true, finished: slices.Repeat([]bool{true}, c.Threads)})
		}
	}
}

// R4: what is handed in is neither changed nor kept, nor the spare room behind its lists: it may be spoilt at once, and in the midst.
func TestHandedInIsNotKept(t *testing.T) {
	setup := func() api.Setup {
		s := api.Setup{
			Config:   small,
			Start:    append(make([]float64, 0, 4), of(odd[0])),
			Programs: append(make([]api.Program, 0, 4), adds(), tells()),
			Threads:  append(make([][]api.Call, 0, 4), append(make([]api.Call, 0, 4), call(0, 1), call(0, of(odd[1])), call(1)), []api.Call{call(1, 2, minus0)}),
		}
		s.Programs[0].Code = append(make([]api.Instr, 0, 20), s.Programs[0].Code...)
		return s
	}
	for behind := range 60 {
		s, kept := setup(), setup()
		e, other := made(t, s), made(t, setup())
		for i := range behind {
			e.Step(i % 2)
			other.Step(i % 2)
		}
		if wholeOf(s) != wholeOf(kept) {
			t.Fatalf("behind %d steps what was handed in is %v, it was %v", behind, wholeOf(s), wholeOf(kept))
		}
		spoilSetup(s)
		spoilt := wholeOf(s)
		wantLook(t, "spoilt", e, lookAt(other))
		wantLook(t, "spoilt, at its end", finish(t, e), lookAt(finish(t, other)))
		if wholeOf(s) != spoilt {
			t.Fatalf("the engine has changed what was handed in")
		}
	}
}

// wholeOf is all of a setup, with the spare room behind its lists.
func wholeOf(s api.Setup) string {
	programs, threads := s.Programs[:cap(s.Programs)], s.Threads[:cap(s.Threads)]
	all := fmt.Sprint(s.Config, s.Start[:cap(s.Start)], programs, threads)
	for _, p := range programs {
		all += fmt.Sprint(p.Code[:cap(p.Code)])
	}
	for _, calls := range threads {
		all += fmt.Sprint(calls[:cap(calls)])
	}
	return all
}

func spoilSetup(s api.Setup) {
	for _, calls := range s.Threads {
		for _, one := range calls {
			spoil(one.Args, 77)
		}
		spoil(calls, call(0, 88))
	}
	for _, p := range s.Programs {
		spoil(p.Code, in(api.OpAbort, 9))
	}
	spoil(s.Start, 99)
	spoil(s.Programs, program(api.Updates, in(api.OpAbort, 8)))
	spoil(s.Threads, []api.Call{call(1)})
}

// spoil lays another thing wherever a list, or its spare room, has one.
func spoil[T any](l []T, x T) {
	l = l[:cap(l)]
	for i := range l {
		l[i] = x
	}
}

// R4: a script is neither changed nor kept.
func TestScriptIsNotKept(t *testing.T) {
	script := append(make([]int, 0, 40), 0, 1, -1, 7, 0)
	e := made(t, chapters())
	e.Run(script)
	if all := script[:cap(script)]; !slices.Equal(all[:5], []int{0, 1, -1, 7, 0}) || slices.ContainsFunc(all[5:], func(n int) bool { return n != 0 }) {
		t.Errorf("the script is %v", all)
	}
	was := lookAt(e)
	spoil(script, 1)
	wantLook(t, "behind a script that is spoilt", e, was)
}
