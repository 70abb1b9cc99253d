package alone_test

import (
	"fmt"
	"math"
	"slices"
	"testing"

	"beadle/alone"
	"beadle/api"
	"beadle/code"
	"beadle/number"
	"beadle/state"
)

// takes and lays are how many numbers each operation takes and lays, by the table of chapter 5.
var (
	takes = [...]int{0, 0, 1, 1, 2, 0, 0, 0, 1, 1, 2, 0, 1, 1, 0, 0, 1, 2, 1, 0, 0}
	lays  = [...]int{0, 1, 0, 2, 2, 1, 1, 1, 0, 1, 1, 0, 0, 0, 0, 0, 1, 0, 0, 0, 0}
)

// model is a transaction that has the cells for itself: it writes them where they are, as nobody else looks, and what they had is laid back unless it commits.
type model struct {
	c      api.Config
	p      api.Program
	args   [8]float64
	locals [8]float64
	cells  []float64
	stack  []float64
	back   []int
	place  int
	went   went
}

// modelled is what becomes of a call over these cells, and of the cells.
func modelled(c api.Config, p api.Program, args, cells []float64) (went, []float64) {
	m := &model{c: c, p: p, cells: slices.Clone(cells)}
	copy(m.args[:], args)
	for m.went.end.How == api.Going {
		m.went.end = m.next()
	}
	if m.went.end.How != api.Committed {
		return m.went, cells
	}
	return m.went, m.cells
}

// next does an instruction, and is how it ended with that.
func (m *model) next() api.End {
	switch {
	case code.Check(m.p) != api.OK:
		return failed(api.ErrBadProgram)
	case m.went.fuel == m.c.Fuel:
		return failed(api.ErrFuel)
	case m.place == len(m.p.Code):
		return failed(api.ErrBadProgram)
	}
	it := m.p.Code[m.place]
	m.place++
	m.went.fuel++
	high := len(m.stack)
	if high < takes[it.Op] || it.Op == api.OpPick && high <= it.N || high-takes[it.Op]+lays[it.Op] > 64 || it.Op == api.OpCall && len(m.back) == 16 {
		return failed(api.ErrStack)
	}
	x, y := m.top(0), m.top(1)
	m.stack = m.stack[:high-takes[it.Op]]
	switch it.Op {
	case api.OpRead, api.OpWrite:
		return m.touches(it, x, y)
	case api.OpJump, api.OpIf, api.OpUnless, api.OpCall, api.OpRet, api.OpHalt, api.OpAbort:
		return m.goes(it, x)
	}
	m.reckons(it, x, y)
	return api.End{}
}

// top is a number below the top, or a nought if there is none.
func (m *model) top(n int) float64 {
	if n >= len(m.stack) {
		return 0
	}
	return m.stack[len(m.stack)-1-n]
}

func (m *model) touches(it api.Instr, x, y float64) api.End {
	cell := -1
	for i := range m.c.Cells {
		if float64(i) == x {
			cell = i
		}
	}
	written := slices.IndexFunc(m.went.writes, func(w touch) bool { return w.cell == cell })
	switch {
	case it.Op == api.OpWrite && m.p.Tag != api.Updates:
		return failed(api.ErrReadOnlyWrite)
	case cell < 0:
		return failed(api.ErrBadProgram)
	case it.Op == api.OpRead:
		m.went.reads = append(m.went.reads, at(cell, m.cells[cell]))
		m.stack = append(m.stack, m.cells[cell])
	case written >= 0:
		m.went.writes[written] = at(cell, y)
		m.cells[cell] = y
	case len(m.went.writes) == m.c.Writes:
		return failed(api.ErrTooManyWrites)
	default:
		m.went.writes = append(m.went.writes, at(cell, y))
		m.cells[cell] = y
	}
	return api.End{}
}

func (m *model) goes(it api.Instr, x float64) api.End {
	is := x == x && x != 0
	switch {
	case it.Op == api.OpAbort:
		return aborted(it.N)
	case it.Op == api.OpHalt, it.Op == api.OpRet && len(m.back) == 0:
		return committed
	case it.Op == api.OpRet:
		m.place = m.back[len(m.back)-1]
		m.back = m.back[:len(m.back)-1]
	case it.Op == api.OpCall:
		m.back = append(m.back, m.place)
		m.place = it.N
	case it.Op == api.OpJump, it.Op == api.OpIf && is, it.Op == api.OpUnless && !is:
		m.place = it.N
	}
	return api.End{}
}

func (m *model) reckons(it api.Instr, x, y float64) {
	var z float64
	switch it.Op {
	case api.OpEmit:
		m.went.out = append(m.went.out, right(x))
	case api.OpSet:
		m.locals[it.N] = x
	case api.OpDup:
		m.stack = append(m.stack, x, x)
	case api.OpSwap:
		m.stack = append(m.stack, x, y)
	case api.OpPush:
		z = it.X
	case api.OpPick:
		z = m.top(it.N)
	case api.OpArg:
		z = m.args[it.N]
	case api.OpGet:
		z = m.locals[it.N]
	case api.OpOne:
		z, _ = number.One(it.N, x)
	case api.OpTwo:
		z, _ = number.Two(it.N, y, x)
	}
	if lays[it.Op] == 1 {
		m.stack = append(m.stack, z)
	}
}

// rule is a row of numbers that looks as if thrown.
type rule uint64

func (r *rule) below(n int) int {
	*r = *r*6364136223846793005 + 1442695040888963407
	return int(uint64(*r>>33) % uint64(n))
}

// number is often a cell's, one of the first few mostly.
func (r *rule) number(cells int) float64 {
	switch r.below(6) {
	case 0:
		return float64(r.below(cells + r.below(2)))
	case 1:
		all := odd()
		return all[r.below(len(all))]
	}
	return float64(r.below(min(cells, 4)))
}

func (r *rule) numbers(many, cells int) []float64 {
	var xs []float64
	for range many {
		xs = append(xs, r.number(cells))
	}
	return xs
}

// instr is any instruction of a program of so many.
func (r *rule) instr(cells, many int) api.Instr {
	often := []int{1, 1, 3, 5, 6, 7, 8, 9, 10, 12, 16, 16, 16, 17, 17, 17, 17, 18}
	op := often[r.below(len(often))]
	if r.below(8) == 0 {
		op = 1 + r.below(20)
	}
	switch op {
	case api.OpPush:
		return push(r.number(cells))
	case api.OpPick:
		return in(op, r.below(1+r.below(8)))
	case api.OpArg, api.OpGet, api.OpSet:
		return in(op, r.below(8))
	case api.OpOne:
		return in(op, 1+r.below(8))
	case api.OpTwo:
		return in(op, 1+r.below(12))
	case api.OpJump, api.OpIf, api.OpUnless, api.OpCall:
		return in(op, r.below(many))
	case api.OpAbort:
		return in(op, r.below(100))
	}
	return in(op, 0)
}

// program is one that may be, but for some. Most of its instructions have the numbers that they take, and most addresses are cells, so that it comes far.
func (r *rule) program(c api.Config) api.Program {
	many := 2 + r.below(50)
	p := program(1 + min(r.below(4), 1))
	high := 0
	for len(p.Code) < many-1 {
		it := r.instr(c.Cells, many)
		if touches := it.Op == api.OpRead || it.Op == api.OpWrite; touches && len(p.Code)+2 < many && r.below(20) > 0 {
			p.Code = append(p.Code, push(float64(r.below(min(c.Cells, 6)))))
			high++
		}
		if lacks := high < takes[it.Op] || it.Op == api.OpPick && high <= it.N; lacks && r.below(30) > 0 {
			it = push(r.number(c.Cells))
		}
		p.Code = append(p.Code, it)
		high = max(high+lays[it.Op]-takes[it.Op], 0)
	}
	p.Code = append(p.Code, in(api.OpHalt, 0))
	if r.below(40) == 0 {
		p.Tag = r.below(5) - 1
	}
	if r.below(40) == 0 {
		p.Code[r.below(many)].N += 1 + r.below(1000)
	}
	return p
}

func (r *rule) config() api.Config {
	fuels := []int{1, 2, 20, 100, 400, 1024}
	return api.Config{Cells: 1 + r.below(1+r.below(256)), Threads: 1 + r.below(8), Fuel: fuels[r.below(len(fuels))], Writes: 1 + r.below(1+r.below(32))}
}

func (r *rule) calls(programs, cells int) []api.Call {
	var calls []api.Call
	for range r.below(12) {
		calls = append(calls, api.Call{Program: r.below(programs), Args: r.numbers(r.below(9), cells)})
	}
	return calls
}

// tally counts what was met, so that a walk that meets too little is seen.
type tally map[string]int

func (n tally) note(w went, changed bool) {
	n[fmt.Sprint("end ", w.end.How, w.end.E)]++
	n[fmt.Sprint("end ", w.end.How, ", wrote: ", len(w.writes) > 0)]++
	n[fmt.Sprint("end ", w.end.How, ", changed: ", changed)]++
}

// P9.1 to P9.3: calls of any programs over any numbers, against what each of them means: by Calls of all, and by Run of each.
func TestWalks(t *testing.T) {
	r := rule(9)
	met := tally{}
	for i := range 1500 {
		walk(t, fmt.Sprint("walk ", i), &r, met)
		if t.Failed() {
			return
		}
	}
	for _, what := range []string{
		"end 1 0", "end 2 0", "end 3 50", "end 3 70", "end 3 80", "end 3 81", "end 3 82",
		"end 1, wrote: true", "end 1, wrote: false", "end 2, wrote: true", "end 3, wrote: true", "end 1, changed: true", "end 1, changed: false",
	} {
		if met[what] < 20 {
			t.Errorf("%s: met %d times only", what, met[what])
		}
	}
	if met["end 2, changed: true"]+met["end 3, changed: true"] > 0 {
		t.Error("the model changes what it may not")
	}
}

func walk(t *testing.T, what string, r *rule, met tally) {
	t.Helper()
	c := r.config()
	cells := r.numbers(c.Cells, c.Cells)
	var l []api.Program
	for range 1 + r.below(6) {
		l = append(l, r.program(c))
	}
	calls := r.calls(len(l), c.Cells)
	all, each := of(t, cells...), of(t, cells...)
	var want []went
	for i, call := range calls {
		w, behind := modelled(c, l[call.Program], call.Args, cells)
		met.note(w, !slices.Equal(rights(cells...), rights(behind...)))
		cells, want = behind, append(want, w)
		wantRun(t, fmt.Sprint(what, ", call ", i), c, l[call.Program], call.Args, each, w, rights(cells...)...)
	}
	wantCalls(t, what, c, l, calls, all, want...)
	wantState(t, what, all, rights(cells...)...)
}

func resultsOf(t *testing.T, c api.Config, l []api.Program, calls []api.Call, s *state.State) []went {
	t.Helper()
	got, e := alone.Calls(c, l, calls, s)
	wantErrno(t, "Calls", e, api.OK)
	var all []went
	for _, r := range got {
		all = append(all, wentBy(r))
	}
	return all
}

// P9.3: Calls of two lists, one behind the other, is Calls of both, joined, wherever the one ends.
func TestJoined(t *testing.T) {
	r := rule(93)
	for i := range 300 {
		c := r.config()
		cells := r.numbers(c.Cells, c.Cells)
		l := []api.Program{r.program(c), r.program(c), r.program(c)}
		calls := slices.Concat(r.calls(3, c.Cells), r.calls(3, c.Cells))
		joined := of(t, cells...)
		want := resultsOf(t, c, l, calls, joined)
		for cut := range len(calls) + 1 {
			s := of(t, cells...)
			got := append(resultsOf(t, c, l, calls[:cut], s), resultsOf(t, c, l, calls[cut:], s)...)
			if !slices.EqualFunc(got, want, went.like) || !s.Same(joined) {
				t.Fatalf("walk %d, cut at %d of %d:\n got %+v,\nwant %+v", i, cut, len(calls), got, want)
			}
		}
	}
}

// P9.3: whatever runs, the state behind it is what it was, with the writes of one that committed laid in; all other cells have what they had.
func TestBehindARun(t *testing.T) {
	r := rule(94)
	for i := range 2000 {
		c := r.config()
		s := of(t, r.numbers(c.Cells, c.Cells)...)
		want := bitsOf(s.All())
		p := r.program(c)
		got, e := alone.Run(c, p, r.numbers(r.below(9), c.Cells), s)
		wantErrno(t, "Run", e, api.OK)
		if got.End.How == api.Committed {
			for _, w := range got.Writes {
				want[w.Cell] = math.Float64bits(w.X)
			}
		}
		if p.Tag != api.Updates && len(got.Writes) > 0 {
			t.Errorf("run %d: the tag %d writes %v", i, p.Tag, got.Writes)
		}
		if got.End.How == api.Going || got.Fuel > c.Fuel {
			t.Errorf("run %d: %+v, fuel %d of %d", i, got.End, got.Fuel, c.Fuel)
		}
		wantState(t, fmt.Sprint("run ", i), s, want...)
	}
}

// R5: the same over the same numbers goes the same way, with others run between.
func TestTheSameAgain(t *testing.T) {
	r := rule(95)
	for range 300 {
		c := r.config()
		one := of(t, r.numbers(c.Cells, c.Cells)...)
		two := one.Clone()
		l := []api.Program{r.program(c), r.program(c)}
		calls := r.calls(2, c.Cells)
		a := resultsOf(t, c, l, calls, one)
		resultsOf(t, c, []api.Program{r.program(c)}, r.calls(1, c.Cells), of(t, r.numbers(c.Cells, c.Cells)...))
		b := resultsOf(t, c, l, calls, two)
		if !slices.EqualFunc(a, b, went.like) || !one.Same(two) {
			t.Fatalf("%+v, then %+v", a, b)
		}
	}
}
