package machine_test

import (
	"fmt"
	"math"
	"slices"
	"testing"

	"beadle/api"
	"beadle/code"
	"beadle/machine"
	"beadle/number"
)

// model is a machine by the words of the chapter. Its lists are never changed where they lie, so a copy of it is another one.
type model struct {
	c     api.Config
	p     api.Program
	args  []float64
	is    look
	back  []int
	waits bool
	cell  int
}

func modelOf(c api.Config, p api.Program, args []float64) model {
	return model{c: c, p: p, args: args, is: look{locals: noLocals()}}
}

func with[T any](l []T, more ...T) []T { return slices.Concat(l, more) }

// top are the numbers on top, as many as asked for, the topmost first; noughts stand for those that are not there.
func (m model) top(many int) []float64 {
	xs := make([]float64, many)
	for i := range min(many, len(m.is.stack)) {
		xs[i] = math.Float64frombits(m.is.stack[len(m.is.stack)-1-i])
	}
	return xs
}

// cellOf goes through all cells, to find the one whose number it is.
func (m model) cellOf(x float64) int {
	for cell := range m.c.Cells {
		if float64(cell) == x {
			return cell
		}
	}
	return -1
}

func (m model) written(cell int) int {
	return slices.IndexFunc(m.is.writes, func(w touch) bool { return w.cell == cell })
}

// fault is the first of an instruction's failures, or OK.
func (m model) fault(in api.Instr) api.Errno {
	high := len(m.is.stack)
	switch {
	case high < takes[in.Op], in.Op == api.OpPick && high <= in.N, high+lays[in.Op]-takes[in.Op] > 64, in.Op == api.OpCall && len(m.back) == 16:
		return api.ErrStack
	case in.Op == api.OpWrite && m.p.Tag != api.Updates:
		return api.ErrReadOnlyWrite
	case (in.Op == api.OpRead || in.Op == api.OpWrite) && m.cellOf(m.top(1)[0]) < 0:
		return api.ErrBadProgram
	case in.Op == api.OpWrite && m.written(m.cellOf(m.top(1)[0])) < 0 && len(m.is.writes) == m.c.Writes:
		return api.ErrTooManyWrites
	}
	return api.OK
}

func (m model) ends(end api.End) (model, ask) {
	m.is.end = end
	return m, ask{kind: api.AskEnd}
}

// step is the model behind a Step, and what that asks.
func (m model) step() (model, ask) {
	switch {
	case m.waits:
		return m, ask{kind: api.AskRead, cell: m.cell}
	case m.is.end.How != api.Going:
		return m, ask{kind: api.AskEnd}
	case code.Check(m.p) != api.OK:
		return m.ends(failed(api.ErrBadProgram))
	case m.is.used >= m.c.Fuel:
		return m.ends(failed(api.ErrFuel))
	case m.is.place >= len(m.p.Code):
		return m.ends(failed(api.ErrBadProgram))
	}
	in := m.p.Code[m.is.place]
	m.is.used++
	m.is.place++
	if e := m.fault(in); e != api.OK {
		return m.ends(failed(e))
	}
	xs := m.top(64)
	m.is.stack = m.is.stack[:len(m.is.stack)-takes[in.Op]]
	return m.does(in, xs)
}

func (m model) lays(xs ...float64) (model, ask) {
	m.is.stack = with(m.is.stack, rights(xs...)...)
	return m, ask{}
}

// goes is the model at another place, if so.
func (m model) goes(place int, so bool) (model, ask) {
	if so {
		m.is.place = place
	}
	return m, ask{}
}

// does is the model behind an instruction that can be done, of which xs were the numbers on top; those that it takes are taken.
func (m model) does(in api.Instr, xs []float64) (model, ask) {
	is := xs[0] == xs[0] && xs[0] != 0
	switch in.Op {
	case api.OpPush:
		return m.lays(in.X)
	case api.OpDup:
		return m.lays(xs[0], xs[0])
	case api.OpSwap:
		return m.lays(xs[0], xs[1])
	case api.OpPick:
		return m.lays(xs[in.N])
	case api.OpArg:
		return m.lays(append(m.args[:len(m.args):len(m.args)], make([]float64, 8)...)[in.N])
	case api.OpGet:
		return m.lays(math.Float64frombits(m.is.locals[in.N]))
	case api.OpSet:
		m.is.locals = slices.Clone(m.is.locals)
		m.is.locals[in.N] = right(xs[0])
	case api.OpOne:
		x, _ := number.One(in.N, xs[0])
		return m.lays(x)
	case api.OpTwo:
		x, _ := number.Two(in.N, xs[1], xs[0])
		return m.lays(x)
	case api.OpJump:
		return m.goes(in.N, true)
	case api.OpIf:
		return m.goes(in.N, is)
	case api.OpUnless:
		return m.goes(in.N, !is)
	case api.OpEmit:
		m.is.out = with(m.is.out, right(xs[0]))
	case api.OpAbort:
		return m.ends(api.End{How: api.Aborted, Code: in.N})
	case api.OpHalt:
		return m.ends(committed)
	case api.OpCall, api.OpRet:
		return m.calls(in)
	case api.OpRead:
		return m.reads(m.cellOf(xs[0]))
	case api.OpWrite:
		return m.writes(m.cellOf(xs[0]), right(xs[1]))
	}
	return m, ask{}
}

func (m model) calls(in api.Instr) (model, ask) {
	if in.Op == api.OpCall {
		m.back = with(m.back, m.is.place)
		m.is.depth++
		return m.goes(in.N, true)
	}
	if len(m.back) == 0 {
		return m.ends(committed)
	}
	last := len(m.back) - 1
	m.is.place = m.back[last]
	m.back = m.back[:last]
	m.is.depth--
	return m, ask{}
}

func (m model) reads(cell int) (model, ask) {
	i := m.written(cell)
	if i < 0 {
		m.waits, m.cell = true, cell
		return m, ask{kind: api.AskRead, cell: cell}
	}
	return m.given(m.is.writes[i]), ask{kind: api.AskOwn, cell: cell, bits: m.is.writes[i].bits}
}

// given is the model with one read more.
func (m model) given(r touch) model {
	m.is.reads = with(m.is.reads, r)
	m.is.stack = with(m.is.stack, r.bits)
	return m
}

func (m model) give(x float64) (model, api.Errno) {
	if !m.waits {
		return m, api.ErrState
	}
	m.waits = false
	return m.given(touch{m.cell, right(x)}), api.OK
}

func (m model) writes(cell int, bits uint64) (model, ask) {
	i := m.written(cell)
	if i < 0 {
		m.is.writes = with(m.is.writes, touch{cell, bits})
	} else {
		m.is.writes = slices.Clone(m.is.writes)
		m.is.writes[i].bits = bits
	}
	return m, ask{kind: api.AskWrite, cell: cell, bits: bits, first: i < 0}
}

// rule is a row of numbers that looks as if thrown.
type rule uint64

func (r *rule) below(n int) int {
	*r = *r*6364136223846793005 + 1442695040888963407
	return int(uint64(*r>>33) % uint64(n))
}

// number is often a cell's, one of the first few mostly.
func (r *rule) number(cells int) float64 {
	switch r.below(6) {
	case 0:
		return float64(r.below(cells + r.below(2)))
	case 1:
		all := odd()
		return all[r.below(len(all))]
	}
	return float64(r.below(min(cells, 4)))
}

// instr is any instruction of a program of so many.
func (r *rule) instr(c api.Config, many int) api.Instr {
	often := []int{1, 1, 1, 3, 5, 6, 7, 8, 9, 10, 12, 13, 16, 16, 16, 17, 17, 17, 17, 18}
	op := often[r.below(len(often))]
	if r.below(6) == 0 {
		op = 1 + r.below(18)
	} else if r.below(60) == 0 {
		op = 19 + r.below(2)
	}
	switch op {
	case api.OpPush:
		return push(r.number(c.Cells))
	case api.OpPick:
		return in(op, r.below(1+r.below(64)))
	case api.OpArg, api.OpGet, api.OpSet:
		return in(op, r.below(8))
	case api.OpOne:
		return in(op, 1+r.below(8))
	case api.OpTwo:
		return in(op, 1+r.below(12))
	case api.OpJump, api.OpIf, api.OpUnless, api.OpCall:
		return in(op, r.below(many))
	case api.OpAbort:
		return in(op, r.below(100))
	}
	return in(op, 0)
}

// program is one that may be, but for some. Most of its instructions have the numbers that they take, and most addresses are cells, so that it comes far; how high the stack is it guesses as if there were no jumps.
func (r *rule) program(c api.Config) api.Program {
	many := 1 + r.below(60)
	p := program(1 + min(r.below(4), 1))
	high := 0
	for len(p.Code) < many {
		it := r.instr(c, many)
		if touches := it.Op == api.OpRead || it.Op == api.OpWrite; touches && len(p.Code)+1 < many && r.below(8) > 0 {
			p.Code = append(p.Code, push(float64(r.below(min(c.Cells, 6)))))
			high++
		}
		if lacks := high < takes[it.Op] || it.Op == api.OpPick && high <= it.N; lacks && r.below(20) > 0 {
			it = push(r.number(c.Cells))
		}
		p.Code = append(p.Code, it)
		high = max(high+lays[it.Op]-takes[it.Op], 0)
	}
	if r.below(50) == 0 {
		p.Tag = r.below(5) - 1
	}
	if r.below(50) == 0 {
		p.Code[r.below(many)].N += 1 + r.below(1000)
	}
	return p
}

func (r *rule) config() api.Config {
	fuels := []int{1, 2, 3, 20, 100, 400}
	return api.Config{Cells: 1 + r.below(1+r.below(256)), Threads: 1 + r.below(8), Fuel: fuels[r.below(len(fuels))], Writes: 1 + r.below(1+r.below(32))}
}

// tally counts what was met, so that a walk that meets too little is seen.
type tally map[string]int

func (n tally) note(a ask, end api.End) {
	n[fmt.Sprint("ask ", a.kind, a.first)]++
	if a.kind == api.AskEnd {
		n[fmt.Sprint("end ", end.How, end.E)]++
	}
}

// same makes one step of both, and holds them against each other.
func same(t *testing.T, what string, m *machine.Machine, b model, met tally) model {
	t.Helper()
	b, a := b.step()
	wantStep(t, what, m, a)
	wantLook(t, what, m, b.is)
	met.note(a, b.is.end)
	return b
}

type fork struct {
	m *machine.Machine
	b model
}

// P8.1 to P8.6: a machine and its model go by the same program and are given the same; clones stay behind, and go on by themselves at the end.
func TestWalks(t *testing.T) {
	r := rule(8)
	met := tally{}
	for i := range 1500 {
		walk(t, fmt.Sprint("walk ", i), &r, met)
		if t.Failed() {
			return
		}
	}
	for _, what := range []string{
		"ask 0 false", "ask 1 false", "ask 2 false", "ask 3 true", "ask 3 false", "ask 4 false",
		"end 1 0", "end 2 0", "end 3 50", "end 3 70", "end 3 80", "end 3 81", "end 3 82",
	} {
		if met[what] < 20 {
			t.Errorf("%s: met %d times only", what, met[what])
		}
	}
}

func walk(t *testing.T, what string, r *rule, met tally) {
	t.Helper()
	c := r.config()
	p := r.program(c)
	var args []float64
	for range r.below(9) {
		args = append(args, r.number(c.Cells))
	}
	m, b := made(t, c, p, args...), modelOf(c, p, args)
	wantLook(t, what, m, b.is)
	var forks []fork
	for b.is.end.How == api.Going {
		switch r.below(25) {
		case 0:
			forks = append(forks, fork{m, b})
			m = m.Clone()
		case 1:
			forks = append(forks, fork{m.Clone(), b})
		case 2:
			b = giveBoth(t, what, m, b, r.number(c.Cells))
		}
		b = same(t, what, m, b, met)
		if b.waits && r.below(4) > 0 {
			b = giveBoth(t, what, m, b, r.number(c.Cells))
		}
	}
	same(t, what, m, b, met)
	giveBoth(t, what, m, b, 1)
	for i, f := range forks {
		wantLook(t, what, f.m, f.b.is)
		onward(t, fmt.Sprint(what, ", fork ", i), f, float64(i%3), met)
	}
}

func giveBoth(t *testing.T, what string, m *machine.Machine, b model, x float64) model {
	t.Helper()
	b, e := b.give(x)
	wantGive(t, what, m, x, e)
	wantLook(t, what, m, b.is)
	return b
}

// onward goes to a fork's end, with a number for each read: P8.5 says within how many steps.
func onward(t *testing.T, what string, f fork, x float64, met tally) {
	t.Helper()
	if f.b.waits {
		f.b = giveBoth(t, what, f.m, f.b, x)
	}
	steps := 0
	for f.b.is.end.How == api.Going {
		f.b = same(t, what, f.m, f.b, met)
		steps++
		if f.b.waits {
			f.b = giveBoth(t, what, f.m, f.b, x)
		}
	}
	if f.m.End().How == api.Going || steps > f.b.c.Fuel+1 {
		t.Errorf("%s: %d steps, fuel %d, %+v", what, steps, f.b.c.Fuel, f.m.End())
	}
}

// P8.5: given a number for each read, it ends within Fuel + 1 Steps, whatever the program; its own count never goes beyond the fuel.
func TestItEnds(t *testing.T) {
	r := rule(85)
	for range 4000 {
		c := r.config()
		m := made(t, c, r.program(c), 1, 0, 2)
		for range c.Fuel + 1 {
			if m.Step().Kind == api.AskRead {
				m.Give(r.number(c.Cells))
			}
		}
		if m.End().How == api.Going || m.Used() > c.Fuel {
			t.Fatalf("fuel %d: used %d, %+v", c.Fuel, m.Used(), m.End())
		}
	}
}

// P8.6, R5: two machines of the same go alike, with others between them and ahead of them.
func TestTwoOfTheSame(t *testing.T) {
	r := rule(86)
	for range 300 {
		c := r.config()
		p := r.program(c)
		d := c
		d.Threads = 9 - d.Threads
		one, two := made(t, c, p, 3, 1), made(t, d, p, 3, 1)
		for i := range c.Fuel + 1 {
			made(t, c, r.program(c)).Step()
			a, b := one.Step(), two.Step()
			if bitsOfAsk(a) != bitsOfAsk(b) || !lookAt(one).like(lookAt(two)) {
				t.Fatalf("step %d: %+v, %+v", i, a, b)
			}
			if a.Kind == api.AskRead {
				x := r.number(c.Cells)
				one.Give(x)
				two.Give(x)
			}
		}
	}
}

// P8.2: every program of three instructions out of some of each kind, over stacks of three heights, under both tags.
func TestEveryShortProgram(t *testing.T) {
	kinds := []api.Instr{
		push(1), push(math.NaN()), in(api.OpDrop, 0), in(api.OpDup, 0), in(api.OpSwap, 0), in(api.OpPick, 0), in(api.OpPick, 2), in(api.OpArg, 0), in(api.OpGet, 1), in(api.OpSet, 1),
		in(api.OpOne, api.OneNot), in(api.OpTwo, api.TwoSub), in(api.OpJump, 0), in(api.OpIf, 2), in(api.OpUnless, 0), in(api.OpCall, 1), in(api.OpRet, 0),
		in(api.OpRead, 0), in(api.OpWrite, 0), in(api.OpEmit, 0), in(api.OpAbort, 3), in(api.OpHalt, 0),
	}
	c := api.Config{Cells: 2, Threads: 1, Fuel: 9, Writes: 1}
	met := tally{}
	for row := range len(kinds) * len(kinds) * len(kinds) {
		for high := range 3 {
			for tag := 1; tag <= 2; tag++ {
				p := program(tag, pushes([]float64{0, 1}[:high]...)...)
				for n, i := row, 0; i < 3; n, i = n/len(kinds), i+1 {
					p.Code = append(p.Code, kinds[n%len(kinds)])
				}
				onward(t, fmt.Sprintf("%+v", p), fork{made(t, c, p, 1), modelOf(c, p, []float64{1})}, 1, met)
			}
		}
		if t.Failed() {
			return
		}
	}
}
