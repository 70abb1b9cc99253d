package code_test

import (
	"math"
	"testing"

	"beadle/api"
	"beadle/code"
)

var minus0 = math.Copysign(0, -1)

// op is a row of the chapter's table, in numbers of the test's own.
type op struct {
	op          int
	words       []string // one, or that of each N from least on
	least, most int      // of N; -1: the last place
	behind      string   // what stands behind the word: nothing, x or n
	takes, lays int
}

var ops = []op{
	{1, []string{"push"}, 0, 0, "x", 0, 1},
	{2, []string{"drop"}, 0, 0, "", 1, 0},
	{3, []string{"dup"}, 0, 0, "", 1, 2},
	{4, []string{"swap"}, 0, 0, "", 2, 2},
	{5, []string{"pick"}, 0, 63, "n", 0, 1},
	{6, []string{"arg"}, 0, 7, "n", 0, 1},
	{7, []string{"get"}, 0, 7, "n", 0, 1},
	{8, []string{"set"}, 0, 7, "n", 1, 0},
	{9, []string{"neg", "abs", "floor", "root", "not", "isnan", "sign", "hash"}, 1, 8, "", 1, 1},
	{10, []string{"add", "sub", "mul", "div", "mod", "min", "max", "less", "atmost", "equal", "same", "ahead"}, 1, 12, "", 2, 1},
	{11, []string{"jump"}, 0, -1, "n", 0, 0},
	{12, []string{"if"}, 0, -1, "n", 1, 0},
	{13, []string{"unless"}, 0, -1, "n", 1, 0},
	{14, []string{"call"}, 0, -1, "n", 0, 0},
	{15, []string{"ret"}, 0, 0, "", 0, 0},
	{16, []string{"read"}, 0, 0, "", 1, 1},
	{17, []string{"write"}, 0, 0, "", 2, 0},
	{18, []string{"emit"}, 0, 0, "", 1, 0},
	{19, []string{"abort"}, 0, 99, "n", 0, 0},
	{20, []string{"halt"}, 0, 0, "", 0, 0},
}

// greatest is the greatest N in a program of so many instructions.
func (o op) greatest(many int) int {
	if o.most < 0 {
		return many - 1
	}
	return o.most
}

// strewn are numbers of all kinds but +0.
func strewn() []float64 {
	xs := []float64{minus0, math.NaN(), math.Inf(1), math.Inf(-1), 1, -1, 0.5, 7, 1 << 53, 1<<53 - 1, math.MaxFloat64, math.SmallestNonzeroFloat64, -math.SmallestNonzeroFloat64}
	for _, b := range []uint64{0x7ff8000000000000, 0x7ff0000000000001, 0xfff8000000000000, 0xffffffffffffffff} {
		xs = append(xs, math.Float64frombits(b))
	}
	return xs
}

func program(tag int, code ...api.Instr) api.Program { return api.Program{Tag: tag, Code: code} }

// among is a program of so many halts, but for one instruction at a place.
func among(many, place int, in api.Instr) api.Program {
	p := program(api.Updates)
	for i := range many {
		if i == place {
			p.Code = append(p.Code, in)
		} else {
			p.Code = append(p.Code, api.Instr{Op: 20})
		}
	}
	return p
}

func wantCheck(t *testing.T, what string, p api.Program, right api.Errno) {
	t.Helper()
	if e := code.Check(p); e != right {
		t.Errorf("Check(%s) = %d, want %d", what, e, right)
	}
	s, e := code.Print(p)
	if e != right || (s == "") != (right != api.OK) {
		t.Errorf("Print(%s) = %q, %d, want %d", what, s, e, right)
	}
}

// P5.1, P5.3: each operation with each N about its bounds, wherever it stands in programs of several lengths.
func TestCheckOfEachN(t *testing.T) {
	for _, o := range ops {
		for _, many := range []int{1, 2, 9, 64, 1023, 1024} {
			far := o.greatest(many)
			for _, n := range []int{math.MinInt, -1 << 32, -2, -1, 0, 1, o.least - 1, o.least, o.least + 1, far - 1, far, far + 1, far + 2, many - 1, many, 7, 8, 12, 13, 63, 64, 99, 100, 1023, 1024, 1 << 31, 1 << 32, 1<<32 + 1, math.MaxInt} {
				right := api.ErrBadProgram
				if n >= o.least && n <= far {
					right = api.OK
				}
				for _, at := range []int{0, many / 2, many - 1} {
					wantCheck(t, "an instruction's N", among(many, at, api.Instr{Op: o.op, N: n}), right)
				}
			}
		}
	}
}

// P5.1, P5.3: only push has an X that is not +0, and it any.
func TestCheckOfX(t *testing.T) {
	for _, o := range ops {
		for _, x := range strewn() {
			right := api.ErrBadProgram
			if o.op == 1 {
				right = api.OK
			}
			wantCheck(t, "an instruction's X", program(api.Reads, api.Instr{Op: o.op, N: o.least, X: x}), right)
		}
		wantCheck(t, "X of +0", program(api.Reads, api.Instr{Op: o.op, N: o.least}), api.OK)
	}
}

// P5.1, P5.3
func TestCheckOfTags(t *testing.T) {
	for _, tag := range []int{math.MinInt, -2, -1, 0, 3, 4, 1 << 32, 1<<32 + 1, 1<<32 + 2, math.MaxInt} {
		wantCheck(t, "another tag", program(tag, api.Instr{Op: 20}), api.ErrBadProgram)
	}
	wantCheck(t, "Reads", program(1, api.Instr{Op: 20}), api.OK)
	wantCheck(t, "Updates", program(2, api.Instr{Op: 20}), api.OK)
	// What a program does has no say: a write under Reads fails when it runs.
	wantCheck(t, "Reads that writes", program(1, api.Instr{Op: 17}), api.OK)
}

// P5.1, P5.3
func TestCheckOfOps(t *testing.T) {
	for _, op := range []int{math.MinInt, -20, -1, 0, 21, 22, 1<<32 + 1, math.MaxInt} {
		for _, n := range []int{0, 1, -1} {
			wantCheck(t, "no operation", program(api.Reads, api.Instr{Op: op, N: n}), api.ErrBadProgram)
		}
		wantCheck(t, "no operation, and X", program(api.Reads, api.Instr{Op: op, X: 1}), api.ErrBadProgram)
	}
}

// P5.1, P5.3
func TestCheckOfLengths(t *testing.T) {
	wantCheck(t, "nil", api.Program{Tag: api.Reads}, api.ErrBadProgram)
	wantCheck(t, "empty", api.Program{Tag: api.Reads, Code: []api.Instr{}}, api.ErrBadProgram)
	wantCheck(t, "the zero program", api.Program{}, api.ErrBadProgram)
	for _, c := range []struct {
		many  int
		right api.Errno
	}{{1, api.OK}, {2, api.OK}, {1023, api.OK}, {1024, api.OK}, {1025, api.ErrBadProgram}, {2048, api.ErrBadProgram}, {1 << 17, api.ErrBadProgram}} {
		wantCheck(t, "halts", among(c.many, 0, api.Instr{Op: 20}), c.right)
	}
}

// P5.1: two programs are the same, whatever they are, or unlike in one thing.
func TestSame(t *testing.T) {
	base := []api.Instr{{Op: 1, X: 2}, {Op: 99, N: -7, X: math.NaN()}, {}}
	p := program(5, base...)
	if !code.Same(p, program(5, base...)) || !code.Same(api.Program{}, api.Program{Code: []api.Instr{}}) {
		t.Error("the same are told apart")
	}
	wantUnlike(t, p, program(4, base...))
	wantUnlike(t, p, program(-5, base...))
	wantUnlike(t, p, program(5, base[:2]...))
	wantUnlike(t, p, program(5, base[1:]...))
	wantUnlike(t, p, program(5))
	wantUnlike(t, program(5), program(6))
	wantUnlike(t, p, program(5, append(base[:3:3], api.Instr{})...))
	wantUnlike(t, p, program(5, base[1], base[0], base[2]))
	for i := range base {
		for _, d := range []api.Instr{{Op: 1}, {Op: 1 << 32}, {N: 1}, {N: -1}, {N: 1 << 32}} {
			q := program(5, append(base[:0:0], base...)...)
			q.Code[i].Op += d.Op
			q.Code[i].N += d.N
			wantUnlike(t, p, q)
		}
	}
}

func wantUnlike(t *testing.T, a, b api.Program) {
	t.Helper()
	if code.Same(a, b) || code.Same(b, a) {
		t.Errorf("Same(%v, %v)", a, b)
	}
}

// P5.1: X by its bits, all NaNs for one, of each operation.
func TestSameOfX(t *testing.T) {
	xs := append(strewn(), 0)
	for op := -1; op <= 21; op++ {
		for _, x := range xs {
			for _, y := range xs {
				right := math.Float64bits(x) == math.Float64bits(y) || x != x && y != y
				a, b := program(1, api.Instr{Op: op, X: x}), program(1, api.Instr{Op: op, X: y})
				if code.Same(a, b) != right {
					t.Errorf("Same by %x and %x: %t", math.Float64bits(x), math.Float64bits(y), !right)
				}
			}
		}
	}
}

// P5.2
func TestEffect(t *testing.T) {
	for _, o := range ops {
		if takes, lays, e := code.Effect(o.op); takes != o.takes || lays != o.lays || e != api.OK {
			t.Errorf("Effect(%d) = %d, %d, %d", o.op, takes, lays, e)
		}
	}
	for _, op := range []int{math.MinInt, -1 << 32, -21, -2, -1, 0, 21, 22, 100, 1 << 31, 1<<32 + 1, math.MaxInt} {
		if takes, lays, e := code.Effect(op); takes != 0 || lays != 0 || e != api.ErrArg {
			t.Errorf("Effect(%d) = %d, %d, %d", op, takes, lays, e)
		}
	}
}

// kept is a program in the midst of a list, and a look whether all of that list is as it was.
func kept(tag int, ins ...api.Instr) (api.Program, func() bool) {
	spare := api.Instr{Op: 77, N: -3, X: math.Float64frombits(0x7ff0000000000001)}
	whole := append([]api.Instr{spare}, ins...)
	whole = append(whole, spare, spare, spare)
	was := append([]api.Instr(nil), whole...)
	return program(tag, whole[1:1+len(ins)]...), func() bool {
		for i, in := range whole {
			if in.Op != was[i].Op || in.N != was[i].N || math.Float64bits(in.X) != math.Float64bits(was[i].X) {
				return false
			}
		}
		return true
	}
}

// R4: what is handed in stays as it was, a NaN's bits and the spare room too.
func TestHandedInIsLeft(t *testing.T) {
	otherNaN := math.Float64frombits(0xfff0000000000001)
	for _, ins := range [][]api.Instr{
		{{Op: 1, X: otherNaN}, {Op: 1, X: minus0}, {Op: 10, N: 1}, {Op: 11, N: 3}},
		{{Op: 1, X: otherNaN}, {Op: 2, X: otherNaN}, {Op: 11, N: 9}},
		{{Op: 0}, {Op: 21, N: 5}},
		{},
	} {
		for tag := range 4 {
			p, left := kept(tag, ins...)
			q, alsoLeft := kept(tag, ins...)
			code.Check(p)
			code.Print(p)
			if !code.Same(p, q) || !code.Same(p, p) || !left() || !alsoLeft() {
				t.Errorf("%v was changed, or is not itself", ins)
			}
		}
	}
}

// The examples of the chapter on Check and Effect.
func TestExamplesOfCheck(t *testing.T) {
	wantCheck(t, "push 1, emit, halt", program(api.Reads, api.Instr{Op: api.OpPush, X: 1}, api.Instr{Op: api.OpEmit}, api.Instr{Op: api.OpHalt}), api.OK)
	for what, p := range map[string]api.Program{
		"the tag 0":       program(0, api.Instr{Op: api.OpHalt}),
		"none":            program(api.Reads),
		"jump 1":          program(api.Reads, api.Instr{Op: api.OpJump, N: 1}),
		"halt with N 1":   program(api.Reads, api.Instr{Op: api.OpHalt, N: 1}),
		"drop with X -0":  program(api.Reads, api.Instr{Op: api.OpDrop, X: minus0}),
		"Op 21":           program(api.Reads, api.Instr{Op: 21}),
		"OneNone":         program(api.Reads, api.Instr{Op: api.OpOne, N: api.OneNone}),
		"TwoNone":         program(api.Reads, api.Instr{Op: api.OpTwo, N: api.TwoNone}),
		"OpNone":          program(api.Reads, api.Instr{Op: api.OpNone}),
		"pick MaxStack":   program(api.Reads, api.Instr{Op: api.OpPick, N: api.MaxStack}),
		"arg MaxArgs":     program(api.Reads, api.Instr{Op: api.OpArg, N: api.MaxArgs}),
		"set MaxLocals":   program(api.Reads, api.Instr{Op: api.OpSet, N: api.MaxLocals}),
		"abort MaxAbort+": program(api.Reads, api.Instr{Op: api.OpAbort, N: api.MaxAbort + 1}),
	} {
		wantCheck(t, what, p, api.ErrBadProgram)
	}
	if takes, lays, e := code.Effect(api.OpSwap); takes != 2 || lays != 2 || e != api.OK {
		t.Errorf("Effect(OpSwap) = %d, %d, %d", takes, lays, e)
	}
	if takes, lays, e := code.Effect(api.OpPick); takes != 0 || lays != 1 || e != api.OK {
		t.Errorf("Effect(OpPick) = %d, %d, %d", takes, lays, e)
	}
}
