package machine_test

import (
	"fmt"
	"math"
	"slices"
	"testing"

	"beadle/api"
	"beadle/machine"
	"beadle/number"
)

const oneNaN = 0x7ff8000000000000

// nans are NaNs of many bits: quiet, signalling, of both signs, at the edges of what is one.
var nans = []uint64{
	0x7ff0000000000001, 0x7ff7ffffffffffff, 0x7ff8000000000000, 0x7ff8000000000001, 0x7fffffffffffffff,
	0xfff0000000000001, 0xfff7ffffffffffff, 0xfff8000000000000, 0xfff8000000000001, 0xffffffffffffffff,
}

// plain are bits that no fixing may touch: the noughts, the infinities and what stands beside them, ordinary numbers.
var plain = []uint64{
	0x0000000000000000, 0x8000000000000000, 0x0000000000000001, 0x8000000000000001,
	0x000fffffffffffff, 0x0010000000000000, 0x7fefffffffffffff, 0xffefffffffffffff,
	0x7ff0000000000000, 0xfff0000000000000, 0x3ff0000000000000, 0xbff0000000000000, 0x4008000000000000, 0x400921fb54442d18,
}

// odd are the numbers of all these bits.
func odd() []float64 {
	var xs []float64
	for _, b := range slices.Concat(nans, plain) {
		xs = append(xs, math.Float64frombits(b))
	}
	return xs
}

// right are the bits that a number is fixed to.
func right(x float64) uint64 {
	if x != x {
		return oneNaN
	}
	return math.Float64bits(x)
}

func rights(xs ...float64) []uint64 {
	var bits []uint64
	for _, x := range xs {
		bits = append(bits, right(x))
	}
	return bits
}

var (
	minus0 = math.Copysign(0, -1)
	small  = api.Config{Cells: 2, Threads: 1, Fuel: 10, Writes: 1}
	wide   = api.Config{Cells: 256, Threads: 8, Fuel: 1024, Writes: 32}
)

func in(op, n int) api.Instr { return api.Instr{Op: op, N: n} }

func push(x float64) api.Instr { return api.Instr{Op: api.OpPush, X: x} }

func pushes(xs ...float64) []api.Instr {
	var code []api.Instr
	for _, x := range xs {
		code = append(code, push(x))
	}
	return code
}

func program(tag int, code ...api.Instr) api.Program { return api.Program{Tag: tag, Code: code} }

// touch is a cell and the bits of its number.
type touch struct {
	cell int
	bits uint64
}

func touches(l []api.Touch) []touch {
	var all []touch
	for _, one := range l {
		all = append(all, touch{one.Cell, math.Float64bits(one.X)})
	}
	return all
}

func bitsOf(xs []float64) []uint64 {
	var bits []uint64
	for _, x := range xs {
		bits = append(bits, math.Float64bits(x))
	}
	return bits
}

// ask is an api.Ask with the bits of its number.
type ask struct {
	kind, cell int
	bits       uint64
	first      bool
}

func bitsOfAsk(a api.Ask) ask { return ask{a.Kind, a.Cell, math.Float64bits(a.X), a.First} }

// look is all that can be asked of a machine without a change, numbers by their bits.
type look struct {
	end                api.End
	out                []uint64
	reads, writes      []touch
	used, place, depth int
	stack, locals      []uint64
}

func lookAt(m *machine.Machine) look {
	return look{m.End(), bitsOf(m.Out()), touches(m.Reads()), touches(m.Writes()), m.Used(), m.Place(), m.Depth(), bitsOf(m.Stack()), bitsOf(m.Locals())}
}

func (l look) like(o look) bool {
	return l.end == o.end && l.used == o.used && l.place == o.place && l.depth == o.depth && slices.Equal(l.out, o.out) &&
		slices.Equal(l.reads, o.reads) && slices.Equal(l.writes, o.writes) && slices.Equal(l.stack, o.stack) && slices.Equal(l.locals, o.locals)
}

func noLocals() []uint64 { return make([]uint64, 8) }

func wantLook(t *testing.T, what string, m *machine.Machine, want look) {
	t.Helper()
	if want.locals == nil {
		want.locals = noLocals()
	}
	if got := lookAt(m); !got.like(want) {
		t.Errorf("%s:\n got %+v,\nwant %+v", what, got, want)
	}
}

func wantStep(t *testing.T, what string, m *machine.Machine, want ask) {
	t.Helper()
	if got := bitsOfAsk(m.Step()); got != want {
		t.Errorf("%s: Step = %+v, want %+v", what, got, want)
	}
}

func wantGive(t *testing.T, what string, m *machine.Machine, x float64, want api.Errno) {
	t.Helper()
	if e := m.Give(x); e != want {
		t.Errorf("%s: Give of %x = %d, want %d", what, math.Float64bits(x), e, want)
	}
}

func made(t *testing.T, c api.Config, p api.Program, args ...float64) *machine.Machine {
	t.Helper()
	m := machine.New(c, p, args)
	if m == nil {
		t.Fatalf("New of %+v and %d args: nil", c, len(args))
	}
	return m
}

// stepped does so many steps, in none of which it may end or wait.
func stepped(t *testing.T, m *machine.Machine, steps int) *machine.Machine {
	t.Helper()
	for i := range steps {
		if a := m.Step(); a.Kind == api.AskEnd || a.Kind == api.AskRead {
			t.Fatalf("step %d: %+v, %+v", i, a, m.End())
		}
	}
	return m
}

// ran is a machine with these numbers on its stack, just ahead of that instruction, with others behind it.
func ran(t *testing.T, tag int, xs []float64, it ...api.Instr) *machine.Machine {
	t.Helper()
	code := append(pushes(xs...), it...)
	// So each of the places 0 to 99 is one of the program's.
	for len(code) < 100 {
		code = append(code, in(api.OpHalt, 0))
	}
	return stepped(t, made(t, wide, program(tag, code...), 10, minus0, 12), len(xs))
}

func failed(e api.Errno) api.End { return api.End{How: api.Failed, E: e} }

var (
	none      = ask{}
	ended     = ask{kind: api.AskEnd}
	committed = api.End{How: api.Committed}
)

// P8.1: configs at each of their limits and one past it.
func TestNewOfConfigs(t *testing.T) {
	most := [4]int{256, 8, 1024, 32}
	for i := range most {
		for _, n := range []int{math.MinInt, -most[i], -1, 0, 1, 2, most[i] - 1, most[i], most[i] + 1, 2*most[i] + 1, 1 << 31, 1 << 32, 1<<32 + 1, math.MaxInt} {
			for _, numbers := range [][4]int{{1, 1, 1, 1}, most} {
				numbers[i] = n
				c := api.Config{Cells: numbers[0], Threads: numbers[1], Fuel: numbers[2], Writes: numbers[3]}
				m := machine.New(c, program(api.Reads, in(api.OpHalt, 0)), nil)
				if (m != nil) != (n >= 1 && n <= most[i]) {
					t.Errorf("New of %+v: %v", c, m)
				}
			}
		}
	}
	if machine.New(api.Config{}, api.Program{}, nil) != nil {
		t.Error("New of nothing: a machine")
	}
}

// P8.1: as many args as may be, and more; those that were not handed in are +0.
func TestNewOfArgs(t *testing.T) {
	for many := range 8 + 1 {
		var args []float64
		for i := range many {
			args = append(args, float64(i)+0.5)
		}
		m := made(t, wide, program(api.Reads, in(api.OpArg, 0), in(api.OpArg, 1), in(api.OpArg, 2), in(api.OpArg, 3), in(api.OpArg, 4), in(api.OpArg, 5), in(api.OpArg, 6), in(api.OpArg, 7)), args...)
		stepped(t, m, 8)
		wantLook(t, fmt.Sprint(many, " args"), m, look{used: 8, place: 8, stack: rights(append(args, make([]float64, 8-many)...)...)})
	}
	for _, many := range []int{9, 10, 16, 256, 1 << 16} {
		for _, p := range []api.Program{{}, program(api.Reads, in(api.OpHalt, 0))} {
			if machine.New(wide, p, make([]float64, many)) != nil {
				t.Errorf("New of %d args: a machine", many)
			}
		}
	}
}

// wrong are programs that may not be, each in one thing.
func wrong() map[string]api.Program {
	long := make([]api.Instr, 1025)
	for i := range long {
		long[i] = in(api.OpHalt, 0)
	}
	return map[string]api.Program{
		"nothing":           {},
		"no instruction":    program(api.Updates),
		"the tag 0":         program(0, in(api.OpRet, 0)),
		"the tag 3":         program(3, in(api.OpHalt, 0)),
		"the tag -1":        program(-1, in(api.OpHalt, 0)),
		"too many":          program(api.Reads, long...),
		"OpNone at the end": program(api.Updates, in(api.OpHalt, 0), in(api.OpNone, 0)),
		"Op 21":             program(api.Updates, in(21, 0)),
		"Op -1":             program(api.Updates, in(-1, 0)),
		"a far place":       program(api.Updates, in(api.OpHalt, 0), in(api.OpJump, 2)),
		"arg 8":             program(api.Reads, in(api.OpArg, 8)),
		"arg -1":            program(api.Reads, in(api.OpArg, -1)),
		"get 8":             program(api.Reads, in(api.OpGet, 8)),
		"set -1":            program(api.Reads, push(0), in(api.OpSet, -1)),
		"pick 64":           program(api.Reads, in(api.OpPick, 64)),
		"abort 100":         program(api.Reads, in(api.OpAbort, 100)),
		"OneNone":           program(api.Reads, push(1), in(api.OpOne, 0)),
		"Two 13":            program(api.Reads, push(1), push(1), in(api.OpTwo, 13)),
		"halt with -0":      program(api.Reads, api.Instr{Op: api.OpHalt, X: minus0}),
	}
}

// P8.1, P8.2: a program that may not be has a machine, which fails at once, whatever the tag and the first instruction.
func TestProgramsThatMayNotBe(t *testing.T) {
	for what, p := range wrong() {
		for _, fuel := range []int{1, 2, 1024} {
			m := made(t, api.Config{Cells: 1, Threads: 1, Fuel: fuel, Writes: 1}, p, 1)
			wantLook(t, what, m, look{})
			wantGive(t, what, m, 1, api.ErrState)
			for range 3 {
				wantStep(t, what, m, ended)
				wantGive(t, what, m, 1, api.ErrState)
				wantLook(t, what, m, look{end: failed(api.ErrBadProgram)})
			}
		}
	}
}

// P8.2: each instruction with what it lays, takes and leaves; the stack holds 1, 2, 3 ahead of it, the locals nothing.
func TestEachInstruction(t *testing.T) {
	for _, c := range []struct {
		what  string
		in    api.Instr
		ask   ask
		place int
		stack []float64
	}{
		{"push", push(7.5), none, 4, []float64{1, 2, 3, 7.5}},
		{"push -0", push(minus0), none, 4, []float64{1, 2, 3, minus0}},
		{"drop", in(api.OpDrop, 0), none, 4, []float64{1, 2}},
		{"dup", in(api.OpDup, 0), none, 4, []float64{1, 2, 3, 3}},
		{"swap", in(api.OpSwap, 0), none, 4, []float64{1, 3, 2}},
		{"pick 0", in(api.OpPick, 0), none, 4, []float64{1, 2, 3, 3}},
		{"pick 1", in(api.OpPick, 1), none, 4, []float64{1, 2, 3, 2}},
		{"pick 2", in(api.OpPick, 2), none, 4, []float64{1, 2, 3, 1}},
		{"arg 0", in(api.OpArg, 0), none, 4, []float64{1, 2, 3, 10}},
		{"arg 1", in(api.OpArg, 1), none, 4, []float64{1, 2, 3, minus0}},
		{"arg 2", in(api.OpArg, 2), none, 4, []float64{1, 2, 3, 12}},
		{"arg 3", in(api.OpArg, 3), none, 4, []float64{1, 2, 3, 0}},
		{"arg 7", in(api.OpArg, 7), none, 4, []float64{1, 2, 3, 0}},
		{"get 0", in(api.OpGet, 0), none, 4, []float64{1, 2, 3, 0}},
		{"get 7", in(api.OpGet, 7), none, 4, []float64{1, 2, 3, 0}},
		{"neg", in(api.OpOne, api.OneNeg), none, 4, []float64{1, 2, -3}},
		{"sub", in(api.OpTwo, api.TwoSub), none, 4, []float64{1, -1}},
		{"jump 50", in(api.OpJump, 50), none, 50, []float64{1, 2, 3}},
		{"jump 0", in(api.OpJump, 0), none, 0, []float64{1, 2, 3}},
		{"jump to itself", in(api.OpJump, 3), none, 3, []float64{1, 2, 3}},
		{"if", in(api.OpIf, 50), none, 50, []float64{1, 2}},
		{"unless", in(api.OpUnless, 50), none, 4, []float64{1, 2}},
		{"read", in(api.OpRead, 0), ask{kind: api.AskRead, cell: 3}, 4, []float64{1, 2}},
	} {
		m := ran(t, api.Reads, []float64{1, 2, 3}, c.in)
		wantStep(t, c.what, m, c.ask)
		wantLook(t, c.what, m, look{used: 4, place: c.place, stack: rights(c.stack...)})
	}
}

// P8.2, P8.4: what emits, writes, calls and ends, likewise.
func TestEachInstructionThatLeavesMore(t *testing.T) {
	for _, c := range []struct {
		what string
		in   api.Instr
		ask  ask
		look look
	}{
		{"emit", in(api.OpEmit, 0), none, look{place: 4, stack: rights(1, 2), out: rights(3)}},
		{"write", in(api.OpWrite, 0), ask{api.AskWrite, 3, right(2), true}, look{place: 4, stack: rights(1), writes: []touch{{3, right(2)}}}},
		{"call 60", in(api.OpCall, 60), none, look{place: 60, stack: rights(1, 2, 3), depth: 1}},
		{"call 0", in(api.OpCall, 0), none, look{place: 0, stack: rights(1, 2, 3), depth: 1}},
		{"ret", in(api.OpRet, 0), ended, look{place: 4, stack: rights(1, 2, 3), end: committed}},
		{"halt", in(api.OpHalt, 0), ended, look{place: 4, stack: rights(1, 2, 3), end: committed}},
		{"abort 0", in(api.OpAbort, 0), ended, look{place: 4, stack: rights(1, 2, 3), end: api.End{How: api.Aborted}}},
		{"abort 99", in(api.OpAbort, 99), ended, look{place: 4, stack: rights(1, 2, 3), end: api.End{How: api.Aborted, Code: 99}}},
	} {
		m := ran(t, api.Updates, []float64{1, 2, 3}, c.in)
		wantStep(t, c.what, m, c.ask)
		c.look.used = 4
		wantLook(t, c.what, m, c.look)
	}
}

// P8.2: each local by itself.
func TestLocals(t *testing.T) {
	for n := range 8 {
		m := ran(t, api.Reads, []float64{1, 2}, in(api.OpSet, n), in(api.OpSet, (n+3)%8), push(minus0), in(api.OpSet, n), in(api.OpGet, n), in(api.OpGet, (n+3)%8))
		locals := noLocals()
		locals[n] = right(2)
		wantStep(t, "set", m, none)
		wantLook(t, "set", m, look{used: 3, place: 3, stack: rights(1), locals: locals})
		locals[(n+3)%8] = right(1)
		wantStep(t, "another set", m, none)
		wantLook(t, "another set", m, look{used: 4, place: 4, locals: locals})
		locals[n] = right(minus0)
		stepped(t, m, 4)
		wantLook(t, "get", m, look{used: 8, place: 8, stack: rights(minus0, 1), locals: locals})
	}
}

// P8.2: every operation on one number and on two, at odd numbers; the one on top is the second.
func TestOperations(t *testing.T) {
	for _, x := range odd() {
		for n := 1; n <= 8; n++ {
			z, _ := number.One(n, x)
			m := ran(t, api.Reads, []float64{5, x}, in(api.OpOne, n))
			wantStep(t, "one", m, none)
			wantLook(t, fmt.Sprintf("one %d of %x", n, right(x)), m, look{used: 3, place: 3, stack: rights(5, z)})
		}
		for _, y := range odd() {
			for n := 1; n <= 12; n++ {
				z, _ := number.Two(n, y, x)
				m := ran(t, api.Reads, []float64{5, y, x}, in(api.OpTwo, n))
				wantStep(t, "two", m, none)
				wantLook(t, fmt.Sprintf("two %d of %x, %x", n, right(y), right(x)), m, look{used: 4, place: 4, stack: rights(5, z)})
			}
		}
	}
	for n, z := range map[int]float64{api.TwoAdd: 8, api.TwoSub: 2, api.TwoMul: 15, api.TwoDiv: 5.0 / 3, api.TwoMod: 2, api.TwoMin: 3, api.TwoMax: 5, api.TwoLess: 0, api.TwoAtMost: 0, api.TwoEqual: 0, api.TwoSame: 0, api.TwoAhead: 0} {
		m := ran(t, api.Reads, []float64{5, 3}, in(api.OpTwo, n))
		wantStep(t, "two", m, none)
		wantLook(t, fmt.Sprint("two ", n), m, look{used: 3, place: 3, stack: rights(z)})
	}
}

// P8.2: which numbers are true.
func TestBranches(t *testing.T) {
	for _, x := range append(odd(), 1, -1, 0.5, 1e-300) {
		is := x == x && x != 0
		for op, goes := range map[int]bool{api.OpIf: is, api.OpUnless: !is} {
			m := ran(t, api.Reads, []float64{5, x}, in(op, 77))
			wantStep(t, "a branch", m, none)
			place := 3
			if goes {
				place = 77
			}
			wantLook(t, fmt.Sprintf("op %d of %x", op, right(x)), m, look{used: 3, place: place, stack: rights(5)})
		}
	}
}

// takes and lays are those of the chapter's table, by the operation's number.
var (
	takes = []int{0, 0, 1, 1, 2, 0, 0, 0, 1, 1, 2, 0, 1, 1, 0, 0, 1, 2, 1, 0, 0}
	lays  = []int{0, 1, 0, 2, 2, 1, 1, 1, 0, 1, 1, 0, 0, 0, 0, 0, 1, 0, 0, 0, 0}
)

// P8.2: every operation with every height of the stack: too few numbers, just as many, MaxStack behind it and one more.
func TestHeights(t *testing.T) {
	for op := 1; op <= 20; op++ {
		for _, n := range []int{0, 1, 7, 8, 62, 63} {
			if n > 1 && op != api.OpPick || n == 1 && (op < 9 || op > 10) && op != api.OpPick || n == 0 && (op == 9 || op == 10) {
				continue
			}
			for high := range 65 {
				var xs []float64
				for i := range high {
					// All are cells, so that an address is right wherever it lies.
					xs = append(xs, float64(high-i))
				}
				m := ran(t, api.Updates, xs, in(op, n))
				bad := high < takes[op] || high-takes[op]+lays[op] > 64 || op == api.OpPick && high <= n
				what := fmt.Sprintf("op %d, N %d, %d numbers", op, n, high)
				a := m.Step()
				if got := m.End() == failed(api.ErrStack); got != bad {
					t.Errorf("%s: %+v", what, m.End())
				}
				if bad {
					if a != (api.Ask{Kind: api.AskEnd}) {
						t.Errorf("%s: %+v", what, a)
					}
					wantLook(t, what, m, look{end: failed(api.ErrStack), used: high + 1, place: high + 1, stack: rights(xs...)})
				} else if grown := len(m.Stack()) - high; grown != lays[op]-takes[op] && a.Kind != api.AskRead {
					t.Errorf("%s: %d grown", what, grown)
				}
			}
		}
	}
}

// P8.2, P8.3: a read of a full stack has room for what it is given.
func TestReadAtTheTop(t *testing.T) {
	xs := make([]float64, 64)
	for _, own := range []bool{false, true} {
		code := []api.Instr{push(5), push(0), in(api.OpWrite, 0)}
		if !own {
			code[1] = push(1)
		}
		code = append(append(code, pushes(xs...)...), in(api.OpRead, 0))
		m := stepped(t, made(t, wide, program(api.Updates, code...)), 67)
		a := m.Step()
		if (a.Kind == api.AskOwn) != own {
			t.Errorf("own %t: %+v", own, a)
		}
		if !own {
			wantGive(t, "a read", m, 5, api.OK)
		}
		if l := m.Stack(); len(l) != 64 || l[63] != 5 || m.End().How != api.Going {
			t.Errorf("own %t: %v, %+v", own, l, m.End())
		}
	}
}

// P8.2: pick of each depth, of a stack of each height.
func TestPick(t *testing.T) {
	for high := range 65 {
		var xs []float64
		for i := range high {
			xs = append(xs, 1000+float64(i))
		}
		for n := range 64 {
			m := ran(t, api.Reads, xs, in(api.OpPick, n))
			what := fmt.Sprintf("pick %d of %d", n, high)
			if high <= n || high == 64 {
				wantStep(t, what, m, ended)
				wantLook(t, what, m, look{end: failed(api.ErrStack), used: high + 1, place: high + 1, stack: rights(xs...)})
			} else {
				wantStep(t, what, m, none)
				wantLook(t, what, m, look{used: high + 1, place: high + 1, stack: rights(append(xs, xs[high-1-n])...)})
			}
		}
	}
}

// P8.2: MaxCalls calls are open, one more fails; each ret goes behind the last one that is open, and the last of them ends.
func TestCalls(t *testing.T) {
	for deep := range 18 {
		var code []api.Instr
		// Each calls the place two further on; between them stands what each comes back to.
		for i := range deep {
			code = append(code, in(api.OpCall, 2*i+2), in(api.OpRet, 0))
		}
		code = append(code, push(8), in(api.OpRet, 0))
		m := made(t, wide, program(api.Reads, code...))
		for i := range min(deep, 16) {
			wantStep(t, "call", m, none)
			wantLook(t, "call", m, look{used: i + 1, place: 2*i + 2, depth: i + 1})
		}
		if deep > 16 {
			wantStep(t, "the 17th call", m, ended)
			wantLook(t, "the 17th call", m, look{end: failed(api.ErrStack), used: 17, place: 33, depth: 16})
			continue
		}
		wantStep(t, "the deepest", m, none)
		for i := range deep {
			wantStep(t, "ret", m, none)
			wantLook(t, "ret", m, look{used: deep + 2 + i, place: 2*(deep-1-i) + 1, depth: deep - 1 - i, stack: rights(8)})
		}
		wantStep(t, "the last ret", m, ended)
		last := look{end: committed, used: 2*deep + 2, place: 2, stack: rights(8)}
		wantLook(t, fmt.Sprint("the last ret of ", deep), m, last)
		wantStep(t, "behind the end", m, ended)
		wantLook(t, "behind the end", m, last)
	}
}

// P8.2: a call that stands last comes back to a place behind the last instruction.
func TestRetToNowhere(t *testing.T) {
	m := made(t, small, program(api.Reads, in(api.OpJump, 2), in(api.OpRet, 0), in(api.OpCall, 1)))
	stepped(t, m, 3)
	wantLook(t, "ret", m, look{used: 3, place: 3})
	wantStep(t, "a place that is none", m, ended)
	wantLook(t, "a place that is none", m, look{end: failed(api.ErrBadProgram), used: 3, place: 3})
}

// addresses are numbers, and which cell of 256 each is; -1: none.
var addresses = []struct {
	x    float64
	cell int
}{
	{0, 0}, {minus0, 0}, {1, 1}, {2, 2}, {254, 254}, {255, 255}, {256, -1}, {257, -1}, {-1, -1}, {-256, -1}, {0.5, -1}, {254.5, -1}, {0.9999999999999999, -1}, {1.0000000000000002, -1}, {-0.5, -1},
	{5e-324, -1}, {-5e-324, -1}, {1 << 31, -1}, {1 << 32, -1}, {1<<32 + 1, -1}, {1 << 53, -1}, {1 << 63, -1}, {1 << 64, -1}, {-1 << 63, -1}, {1e300, -1}, {-1e300, -1},
	{math.Inf(1), -1}, {math.Inf(-1), -1}, {math.NaN(), -1}, {math.Float64frombits(0xfff0000000000001), -1},
}

// P8.2: which numbers are addresses, of a read and of a write, in memories of several sizes.
func TestAddresses(t *testing.T) {
	for _, cells := range []int{1, 2, 3, 255, 256} {
		c := api.Config{Cells: cells, Threads: 2, Fuel: 9, Writes: 2}
		for _, a := range addresses {
			what := fmt.Sprintf("%v of %d cells", a.x, cells)
			r := stepped(t, made(t, c, program(api.Reads, push(9), push(a.x), in(api.OpRead, 0))), 2)
			w := stepped(t, made(t, c, program(api.Updates, push(9), push(a.x), in(api.OpWrite, 0))), 2)
			if a.cell < 0 || a.cell >= cells {
				for _, m := range []*machine.Machine{r, w} {
					wantStep(t, what, m, ended)
					wantLook(t, what, m, look{end: failed(api.ErrBadProgram), used: 3, place: 3, stack: rights(9, a.x)})
				}
				wantGive(t, what, r, 1, api.ErrState)
				continue
			}
			wantStep(t, what, r, ask{kind: api.AskRead, cell: a.cell})
			wantLook(t, what, r, look{used: 3, place: 3, stack: rights(9)})
			wantStep(t, what, w, ask{api.AskWrite, a.cell, right(9), true})
			wantLook(t, what, w, look{used: 3, place: 3, writes: []touch{{a.cell, right(9)}}})
		}
	}
}

// P8.2: which of several failures comes first, and that nothing else is done.
func TestFailuresInOrder(t *testing.T) {
	for _, c := range []struct {
		what string
		tag  int
		xs   []float64
		op   int
		e    api.Errno
	}{
		{"write of nothing under Reads", api.Reads, nil, api.OpWrite, api.ErrStack},
		{"write of one under Reads", api.Reads, []float64{0}, api.OpWrite, api.ErrStack},
		{"write of one that is no cell under Reads", api.Reads, []float64{-1}, api.OpWrite, api.ErrStack},
		{"write under Reads at no cell", api.Reads, []float64{1, -1}, api.OpWrite, api.ErrReadOnlyWrite},
		{"write under Reads", api.Reads, []float64{1, 0}, api.OpWrite, api.ErrReadOnlyWrite},
		{"write of nothing", api.Updates, nil, api.OpWrite, api.ErrStack},
		{"write of one", api.Updates, []float64{0}, api.OpWrite, api.ErrStack},
		{"write of one that is no cell", api.Updates, []float64{256}, api.OpWrite, api.ErrStack},
		{"write at no cell", api.Updates, []float64{0, 256}, api.OpWrite, api.ErrBadProgram},
		{"read of nothing", api.Updates, nil, api.OpRead, api.ErrStack},
		{"read at no cell", api.Updates, []float64{7, math.NaN()}, api.OpRead, api.ErrBadProgram},
		{"read at no cell under Reads", api.Reads, []float64{0.5}, api.OpRead, api.ErrBadProgram},
	} {
		m := ran(t, c.tag, c.xs, in(c.op, 0))
		want := look{end: failed(c.e), used: len(c.xs) + 1, place: len(c.xs) + 1, stack: rights(c.xs...)}
		for range 2 {
			wantStep(t, c.what, m, ended)
			wantLook(t, c.what, m, want)
			wantGive(t, c.what, m, 1, api.ErrState)
		}
	}
}

// P8.2: a full buffer, and an address that is none beside it: that comes first.
func TestFullBufferAndNoCell(t *testing.T) {
	for x, e := range map[float64]api.Errno{2: api.ErrBadProgram, -1: api.ErrBadProgram, 0.5: api.ErrBadProgram, 1: api.ErrTooManyWrites} {
		m := stepped(t, made(t, small, program(api.Updates, push(1), push(0), in(api.OpWrite, 0), push(6), push(x), in(api.OpWrite, 0))), 5)
		wantStep(t, "a full buffer", m, ended)
		wantLook(t, fmt.Sprint("the address ", x), m, look{end: failed(e), used: 6, place: 6, stack: rights(6, x), writes: []touch{{0, right(1)}}})
	}
}

// P8.2, P8.4: as many cells as may be written, these again, and one more.
func TestTooManyWrites(t *testing.T) {
	for most := 1; most <= 32; most++ {
		var code []api.Instr
		var puts []touch
		for i := range most {
			cell := i * 37 % 101
			code = append(code, push(float64(i)), push(float64(cell)), in(api.OpWrite, 0))
			puts = append(puts, touch{cell, right(float64(i))})
		}
		again := puts[most/2].cell
		code = append(code, push(-7), push(float64(again)), in(api.OpWrite, 0), push(3), push(200), in(api.OpWrite, 0))
		m := made(t, api.Config{Cells: 256, Threads: 1, Fuel: 1024, Writes: most}, program(api.Updates, code...))
		for i, p := range puts {
			stepped(t, m, 2)
			wantStep(t, "a first write", m, ask{api.AskWrite, p.cell, p.bits, true})
			wantLook(t, "a first write", m, look{used: 3*i + 3, place: 3*i + 3, writes: puts[:i+1]})
		}
		stepped(t, m, 2)
		wantStep(t, "a write again", m, ask{api.AskWrite, again, right(-7), false})
		puts[most/2].bits = right(-7)
		wantLook(t, "a write again", m, look{used: 3*most + 3, place: 3*most + 3, writes: puts})
		stepped(t, m, 2)
		wantStep(t, "one more", m, ended)
		wantLook(t, fmt.Sprint("one more than ", most), m, look{end: failed(api.ErrTooManyWrites), used: 3*most + 6, place: 3*most + 6, stack: rights(3, 200), writes: puts})
	}
}

// P8.2: Fuel instructions and the Step behind them; a halt that comes as the last of them is in time.
func TestFuel(t *testing.T) {
	for fuel := 1; fuel <= 1024; fuel++ {
		c := api.Config{Cells: 1, Threads: 1, Fuel: fuel, Writes: 1}
		m := stepped(t, made(t, c, program(api.Reads, in(api.OpJump, 0))), fuel)
		wantLook(t, "all fuel", m, look{used: fuel})
		for range 2 {
			wantStep(t, "no fuel", m, ended)
			wantLook(t, fmt.Sprint("no fuel of ", fuel), m, look{end: failed(api.ErrFuel), used: fuel})
		}
		m = stepped(t, made(t, c, straight(fuel, in(api.OpHalt, 0))), fuel-1)
		wantStep(t, "a halt", m, ended)
		wantLook(t, "a halt", m, look{end: committed, used: fuel, place: fuel})
	}
}

// straight is a program of so many instructions that go on one behind the other, the last of them as told.
func straight(many int, last api.Instr) api.Program {
	p := program(api.Reads)
	for i := range many - 1 {
		p.Code = append(p.Code, in(api.OpJump, i+1))
	}
	p.Code = append(p.Code, last)
	return p
}

// P8.2: a place behind the last instruction; where the fuel is spent too, it is that which is told.
func TestBehindTheLast(t *testing.T) {
	for many := 1; many <= 1024; many++ {
		for fuel := many; fuel <= min(many+2, 1024); fuel++ {
			e := api.ErrBadProgram
			if fuel == many {
				e = api.ErrFuel
			}
			m := stepped(t, made(t, api.Config{Cells: 1, Threads: 1, Fuel: fuel, Writes: 1}, straight(many, push(2))), many)
			for range 2 {
				wantStep(t, "behind the last", m, ended)
				wantLook(t, fmt.Sprint(many, " instructions, fuel ", fuel), m, look{end: failed(e), used: many, place: many, stack: rights(2)})
			}
		}
	}
}

// P8.2, P8.3, P8.4: Step while it waits does nothing; Give is for a machine that waits alone.
func TestWaiting(t *testing.T) {
	m := made(t, wide, program(api.Updates, push(4), push(8), in(api.OpRead, 0), push(9), in(api.OpRead, 0), in(api.OpHalt, 0)))
	wantGive(t, "at its beginning", m, 1, api.ErrState)
	stepped(t, m, 2)
	wantGive(t, "ahead of the read", m, 1, api.ErrState)
	for range 2000 {
		wantStep(t, "while it waits", m, ask{kind: api.AskRead, cell: 8})
		wantLook(t, "while it waits", m, look{used: 3, place: 3, stack: rights(4)})
	}
	wantGive(t, "the read", m, minus0, api.OK)
	given := look{used: 3, place: 3, stack: rights(4, minus0), reads: []touch{{8, right(minus0)}}}
	wantLook(t, "given", m, given)
	wantGive(t, "given", m, 2, api.ErrState)
	wantLook(t, "given once more", m, given)
	wantStep(t, "behind it", m, none)
	wantStep(t, "another read", m, ask{kind: api.AskRead, cell: 9})
	wantLook(t, "another read", m, look{used: 5, place: 5, stack: rights(4, minus0), reads: given.reads})
	wantGive(t, "another read", m, 6, api.OK)
	wantStep(t, "halt", m, ended)
	over := look{end: committed, used: 6, place: 6, stack: rights(4, minus0, 6), reads: []touch{{8, right(minus0)}, {9, right(6)}}}
	for range 3 {
		wantLook(t, "over", m, over)
		wantGive(t, "over", m, 1, api.ErrState)
		wantStep(t, "over", m, ended)
	}
}

// P8.2: a read that waits has begun the last instruction of the fuel; it is answered, and then there is none.
func TestReadAsTheLastOfTheFuel(t *testing.T) {
	m := made(t, api.Config{Cells: 1, Threads: 1, Fuel: 2, Writes: 1}, program(api.Reads, push(0), in(api.OpRead, 0), in(api.OpHalt, 0)))
	stepped(t, m, 1)
	for range 5 {
		wantStep(t, "a read", m, ask{kind: api.AskRead})
	}
	wantGive(t, "a read", m, 3, api.OK)
	wantStep(t, "no fuel", m, ended)
	wantLook(t, "no fuel", m, look{end: failed(api.ErrFuel), used: 2, place: 2, stack: rights(3), reads: []touch{{0, right(3)}}})
}

// P8.2, P8.4: one cell is read ahead of a write and behind it, another one twice: each time it is asked for anew.
func TestReadsOfOwnWrites(t *testing.T) {
	read := in(api.OpRead, 0)
	m := made(t, wide, program(api.Updates, push(5), read, push(1), push(5), in(api.OpWrite, 0), push(5), read, push(6), read, push(6), read,
		push(2), push(minus0), in(api.OpWrite, 0), push(0), read, push(5), read, in(api.OpAbort, 4)))
	stepped(t, m, 1)
	wantStep(t, "ahead of the write", m, ask{kind: api.AskRead, cell: 5})
	wantGive(t, "ahead of the write", m, 50, api.OK)
	stepped(t, m, 2)
	wantStep(t, "the write", m, ask{api.AskWrite, 5, right(1), true})
	stepped(t, m, 1)
	wantStep(t, "its own", m, ask{kind: api.AskOwn, cell: 5, bits: right(1)})
	wantGive(t, "its own", m, 7, api.ErrState)
	for _, x := range []float64{60, 61} {
		stepped(t, m, 1)
		wantStep(t, "another cell", m, ask{kind: api.AskRead, cell: 6})
		wantGive(t, "another cell", m, x, api.OK)
	}
	stepped(t, m, 2)
	wantStep(t, "at -0", m, ask{api.AskWrite, 0, right(2), true})
	stepped(t, m, 1)
	wantStep(t, "at +0", m, ask{kind: api.AskOwn, bits: right(2)})
	stepped(t, m, 2)
	wantStep(t, "abort", m, ended)
	wantLook(t, "all of it", m, look{
		end: api.End{How: api.Aborted, Code: 4}, used: 19, place: 19, stack: rights(50, 1, 60, 61, 2, 1),
		reads:  []touch{{5, right(50)}, {5, right(1)}, {6, right(60)}, {6, right(61)}, {0, right(2)}, {5, right(1)}},
		writes: []touch{{5, right(1)}, {0, right(2)}},
	})
}

// P8.4: what was emitted, in order, as much as the fuel allows.
func TestOut(t *testing.T) {
	m := made(t, wide, program(api.Reads, in(api.OpGet, 0), in(api.OpDup, 0), in(api.OpEmit, 0), push(1), in(api.OpTwo, api.TwoAdd), in(api.OpSet, 0), in(api.OpJump, 0)))
	var out []float64
	for used := range 1024 {
		wantStep(t, "a count", m, none)
		if used%7 == 2 {
			out = append(out, float64(len(out)))
		}
		if got := m.Out(); !slices.Equal(got, out) {
			t.Fatalf("behind %d: %v, want %v", used, got, out)
		}
	}
	wantStep(t, "no fuel", m, ended)
}

// R6: NaNs of all bits are one, however they come in, and wherever they are told; all else keeps its bits.
func TestNumbersAreFixed(t *testing.T) {
	p := func(x float64) api.Program {
		return program(api.Updates, push(x), in(api.OpDup, 0), in(api.OpEmit, 0), in(api.OpSet, 0), in(api.OpArg, 0), in(api.OpDup, 0), in(api.OpEmit, 0),
			push(1), in(api.OpWrite, 0), push(1), in(api.OpRead, 0), in(api.OpEmit, 0), push(0), in(api.OpRead, 0), in(api.OpDup, 0), in(api.OpEmit, 0),
			in(api.OpDup, 0), push(0), in(api.OpWrite, 0))
	}
	for _, x := range odd() {
		b := right(x)
		m := stepped(t, made(t, wide, p(x), x), 8)
		wantStep(t, "write", m, ask{api.AskWrite, 1, b, true})
		stepped(t, m, 1)
		wantStep(t, "read", m, ask{kind: api.AskOwn, cell: 1, bits: b})
		stepped(t, m, 2)
		wantStep(t, "read", m, ask{kind: api.AskRead})
		wantGive(t, "read", m, x, api.OK)
		stepped(t, m, 4)
		wantStep(t, "write", m, ask{api.AskWrite, 0, b, true})
		locals := noLocals()
		locals[0] = b
		wantLook(t, fmt.Sprintf("%x", math.Float64bits(x)), m, look{
			used: 19, place: 19, stack: []uint64{b}, locals: locals, out: []uint64{b, b, b, b},
			reads: []touch{{1, b}, {0, b}}, writes: []touch{{1, b}, {0, b}},
		})
	}
}

// R4: what was handed in is neither changed nor kept, the spare room of its lists too.
func TestHandedInIsNotKept(t *testing.T) {
	other := math.Float64frombits(0xfff0000000000001)
	whole := []float64{other, 2, 3, other, other}
	ins := []api.Instr{in(api.OpArg, 0), in(api.OpArg, 1), in(api.OpArg, 2), push(other), in(api.OpHalt, 0), {Op: 99, N: -1, X: other}, {}}
	wasNumbers, wasCode := bitsOf(whole), fmt.Sprint(ins)
	m := machine.New(wide, api.Program{Tag: api.Reads, Code: ins[:5]}, whole[:2])
	stepped(t, m, 1)
	for i := range ins {
		ins[i] = in(api.OpAbort, 7)
	}
	for i := range whole {
		whole[i] = -1
	}
	stepped(t, m, 3)
	wantStep(t, "halt", m, ended)
	wantLook(t, "kept", m, look{end: committed, used: 5, place: 5, stack: []uint64{oneNaN, right(2), 0, oneNaN}})

	whole = []float64{other, 2, 3, other, other}
	ins = []api.Instr{in(api.OpArg, 0), in(api.OpArg, 1), in(api.OpArg, 2), push(other), in(api.OpHalt, 0), {Op: 99, N: -1, X: other}, {}}
	m = machine.New(wide, api.Program{Tag: api.Reads, Code: ins[:5]}, whole[:2])
	for range 6 {
		m.Step()
	}
	if !slices.Equal(bitsOf(whole), wasNumbers) || fmt.Sprint(ins) != wasCode || math.Float64bits(ins[3].X) != 0xfff0000000000001 {
		t.Error("what was handed in has changed")
	}
}

// spoil lays another thing wherever a list, or its spare room, has one.
func spoil[T any](l []T, x T) {
	l = l[:cap(l)]
	for i := range l {
		l[i] = x
	}
}

// busy is a machine that has something of everything, and waits.
func busy(t *testing.T) *machine.Machine {
	t.Helper()
	m := made(t, wide, program(api.Updates,
		in(api.OpCall, 2), in(api.OpHalt, 0),
		push(3), in(api.OpSet, 3), push(4), in(api.OpEmit, 0), push(5), push(6), in(api.OpWrite, 0), push(6), in(api.OpRead, 0), push(7), push(8), in(api.OpRead, 0),
		in(api.OpEmit, 0), in(api.OpSet, 1), push(9), push(10), in(api.OpWrite, 0), push(6), push(6), in(api.OpWrite, 0), push(6), in(api.OpRead, 0), in(api.OpRet, 0)))
	stepped(t, m, 12)
	wantStep(t, "busy", m, ask{kind: api.AskRead, cell: 8})
	return m
}

func busyLook() look {
	locals := noLocals()
	locals[3] = right(3)
	return look{used: 13, place: 14, depth: 1, stack: rights(5, 7), locals: locals, out: rights(4), reads: []touch{{6, right(5)}}, writes: []touch{{6, right(5)}}}
}

// R4: what is told is the caller's own, and no two lists share anything.
func TestToldIsTheCallersOwn(t *testing.T) {
	m := busy(t)
	for range 2 {
		spoil(m.Out(), 99)
		spoil(m.Reads(), api.Touch{Cell: 99, X: 99})
		spoil(m.Writes(), api.Touch{Cell: 99, X: 99})
		spoil(m.Stack(), 99)
		spoil(m.Locals(), 99)
		wantLook(t, "spoilt", m, busyLook())
	}
	for _, list := range []func() []float64{m.Out, m.Stack, m.Locals} {
		a, b := list(), list()
		was := bitsOf(b)
		spoil(a, 99)
		if !slices.Equal(bitsOf(b), was) {
			t.Error("two answers share their memory")
		}
	}
	for _, list := range []func() []api.Touch{m.Reads, m.Writes} {
		a, b := list(), list()
		was := touches(b)
		spoil(a, api.Touch{Cell: 99, X: 99})
		if !slices.Equal(touches(b), was) {
			t.Error("two answers share their memory")
		}
	}
}

// R4: what was told stays as it was, whatever the machine does then.
func TestToldStays(t *testing.T) {
	m := busy(t)
	out, reads, writes, stack, locals := m.Out(), m.Reads(), m.Writes(), m.Stack(), m.Locals()
	wantGive(t, "busy", m, 11, api.OK)
	for range 20 {
		m.Step()
	}
	got := look{used: 13, place: 14, depth: 1, out: bitsOf(out), reads: touches(reads), writes: touches(writes), stack: bitsOf(stack), locals: bitsOf(locals)}
	if !got.like(busyLook()) {
		t.Errorf("got %+v", got)
	}
}

// P8.4, R5: of a machine and its clone each goes on by itself, whichever is first, and whatever it is given.
func TestClone(t *testing.T) {
	fresh, end := busyLook(), func(x float64) look {
		l := busyLook()
		l.end, l.used, l.place, l.depth = committed, 25, 2, 0
		l.locals[1] = right(7)
		l.stack, l.out = rights(5, 6), rights(4, x)
		l.reads = []touch{{6, right(5)}, {8, right(x)}, {6, right(6)}}
		l.writes = []touch{{6, right(6)}, {10, right(9)}}
		return l
	}
	finish := func(m *machine.Machine, x float64) {
		wantGive(t, "a clone", m, x, api.OK)
		stepped(t, m, 11)
		wantStep(t, "the end of a clone", m, ended)
		wantLook(t, "the end of a clone", m, end(x))
	}
	m := busy(t)
	one, two := m.Clone(), m.Clone()
	three := two.Clone()
	for i, x := range []*machine.Machine{one, m, three, two} {
		wantLook(t, "a clone", x, fresh)
		wantStep(t, "a clone", x, ask{kind: api.AskRead, cell: 8})
		finish(x, float64(20+i))
	}
	for i, x := range []*machine.Machine{one, m, three, two} {
		wantLook(t, "at last", x, end(float64(20+i)))
		wantLook(t, "a clone of an ended one", x.Clone(), end(float64(20+i)))
		wantStep(t, "a clone of an ended one", x.Clone(), ended)
		wantGive(t, "a clone of an ended one", x.Clone(), 1, api.ErrState)
	}
}

// P8.4, R5: a clone has the config, the program and the arguments, also of a program that may not be.
func TestCloneAtTheBeginning(t *testing.T) {
	for what, p := range wrong() {
		m := made(t, wide, p)
		other := m.Clone()
		wantStep(t, what, m, ended)
		wantLook(t, what, other, look{})
		wantStep(t, what, other, ended)
		wantLook(t, what, other, look{end: failed(api.ErrBadProgram)})
	}
	m := made(t, small, program(api.Updates, in(api.OpArg, 7), push(1), in(api.OpWrite, 0), push(1), push(0), in(api.OpWrite, 0)), 1, 2, 3, 4, 5, 6, 7, 8).Clone()
	stepped(t, m, 2)
	wantStep(t, "a clone's write", m, ask{api.AskWrite, 1, right(8), true})
	stepped(t, m, 2)
	wantStep(t, "a clone's other write", m, ended)
	wantLook(t, "a clone", m, look{end: failed(api.ErrTooManyWrites), used: 6, place: 6, stack: rights(1, 0), writes: []touch{{1, right(8)}}})
}

// P8.6: of a config Threads does not count; the other numbers do.
func TestThreadsDoNotCount(t *testing.T) {
	for threads := 1; threads <= 8; threads++ {
		c := small
		c.Threads = threads
		m := stepped(t, made(t, c, program(api.Updates, push(7), push(1), in(api.OpWrite, 0), in(api.OpJump, 3))), 10)
		wantStep(t, "no fuel", m, ended)
		wantLook(t, "threads", m, look{end: failed(api.ErrFuel), used: 10, place: 3, writes: []touch{{1, right(7)}}})
	}
}

// P8.6: who reads what it has written alone asks for nothing.
func TestOwnReadsAskNothing(t *testing.T) {
	var code []api.Instr
	for cell := range 32 {
		code = append(code, push(float64(cell)*1.5), push(float64(cell)), in(api.OpWrite, 0))
	}
	for i := range 200 {
		code = append(code, push(float64(i*7%32)), in(api.OpRead, 0), in(api.OpEmit, 0))
	}
	m := made(t, wide, program(api.Updates, append(code, in(api.OpHalt, 0))...))
	for range len(code) {
		if a := m.Step(); a.Kind == api.AskRead || a.Kind == api.AskEnd {
			t.Fatalf("%+v, %+v", a, m.End())
		}
	}
	wantStep(t, "halt", m, ended)
	for i, x := range m.Out() {
		if r := m.Reads()[i]; x != float64(i*7%32)*1.5 || r != (api.Touch{Cell: i * 7 % 32, X: x}) {
			t.Errorf("%d: %v, %v", i, x, r)
		}
	}
	if len(m.Out()) != 200 || len(m.Reads()) != 200 {
		t.Errorf("%d, %d", len(m.Out()), len(m.Reads()))
	}
}

// The first example of the chapter.
func TestExampleOfAWrite(t *testing.T) {
	m := made(t, small, program(api.Updates, push(7), push(0), in(api.OpWrite, 0), push(0), in(api.OpRead, 0), in(api.OpEmit, 0), in(api.OpHalt, 0)))
	for _, a := range []ask{none, none, {api.AskWrite, 0, right(7), true}, none, {api.AskOwn, 0, right(7), false}, none, ended, ended} {
		wantStep(t, "a write", m, a)
	}
	wantLook(t, "a write", m, look{end: committed, out: rights(7), reads: []touch{{0, right(7)}}, writes: []touch{{0, right(7)}}, used: 7, place: 7})
}

// The second one.
func TestExampleOfARead(t *testing.T) {
	m := made(t, small, program(api.Reads, push(1), in(api.OpRead, 0), in(api.OpEmit, 0)))
	for _, a := range []ask{none, {kind: api.AskRead, cell: 1}, {kind: api.AskRead, cell: 1}} {
		wantStep(t, "a read", m, a)
	}
	wantGive(t, "a read", m, 5, api.OK)
	wantGive(t, "a read", m, 5, api.ErrState)
	wantStep(t, "emit", m, none)
	wantStep(t, "the place 3", m, ended)
	wantLook(t, "a read", m, look{end: failed(api.ErrBadProgram), out: rights(5), reads: []touch{{1, right(5)}}, used: 3, place: 3})
}

// The third and the fourth, and the document's fifth of the whole.
func TestExamplesOfFailures(t *testing.T) {
	write := in(api.OpWrite, 0)
	for _, c := range []struct {
		what  string
		c     api.Config
		p     api.Program
		steps int // how many Steps it takes to its end
		want  look
	}{
		{"a write under Reads", small, program(api.Reads, push(0), push(0), write), 3, look{end: failed(api.ErrReadOnlyWrite), stack: rights(0, 0), used: 3, place: 3}},
		{"a write nowhere", small, program(api.Updates, push(1), push(2), write), 3, look{end: failed(api.ErrBadProgram), stack: rights(1, 2), used: 3, place: 3}},
		{"two writes", small, program(api.Updates, push(1), push(0), write, push(1), push(1), write), 6, look{end: failed(api.ErrTooManyWrites), stack: rights(1, 1), used: 6, place: 6, writes: []touch{{0, right(1)}}}},
		{"jump 0", small, program(api.Reads, in(api.OpJump, 0)), 11, look{end: failed(api.ErrFuel), used: 10}},
		{"call 0", api.Config{Cells: 2, Threads: 1, Fuel: 20, Writes: 1}, program(api.Reads, in(api.OpCall, 0)), 17, look{end: failed(api.ErrStack), used: 17, place: 1, depth: 16}},
		{"ret", small, program(api.Reads, in(api.OpRet, 0)), 1, look{end: committed, used: 1, place: 1}},
		{"the tag 0", small, program(0, in(api.OpRet, 0)), 1, look{end: failed(api.ErrBadProgram)}},
		{"push 1 for ever", wide, program(api.Reads, push(1), in(api.OpJump, 0)), 129, look{end: failed(api.ErrStack), used: 129, place: 1, stack: rights(slices.Repeat([]float64{1}, 64)...)}},
	} {
		m := stepped(t, made(t, c.c, c.p), c.steps-1)
		wantStep(t, c.what, m, ended)
		wantLook(t, c.what, m, c.want)
	}
}
