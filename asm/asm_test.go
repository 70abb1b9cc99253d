package asm_test

import (
	"fmt"
	"math"
	"slices"
	"testing"

	"beadle/api"
	"beadle/asm"
)

const (
	oneNaN = 0x7ff8000000000000
	minus0 = 0x8000000000000000
)

// nans are NaNs of many bits: quiet, signalling, of both signs, at the edges of what is one.
var nans = []uint64{
	0x7ff0000000000001, 0x7ff7ffffffffffff, 0x7ff8000000000000, 0x7ff8000000000001, 0x7fffffffffffffff,
	0xfff0000000000001, 0xfff7ffffffffffff, 0xfff8000000000000, 0xfff8000000000001, 0xffffffffffffffff,
}

// plain are bits that no fixing may touch: the noughts, the infinities and what stands beside them, ordinary numbers.
var plain = []uint64{
	0x0000000000000000, minus0, 0x0000000000000001, 0x8000000000000001,
	0x000fffffffffffff, 0x0010000000000000, 0x7fefffffffffffff, 0xffefffffffffffff,
	0x7ff0000000000000, 0xfff0000000000000, 0x3ff0000000000000, 0xbff0000000000000, 0x4008000000000000, 0x400921fb54442d18,
}

// odd are whole numbers at the edges of whatever an argument may be taken for.
var odd = []int{
	math.MinInt, math.MinInt + 1, -1 << 32, -1<<32 + 1, -1 << 31, -1025, -257, -256, -2, -1,
	0, 1, 2, 3, 7, 8, 11, 12, 13, 20, 21, 22, 63, 64, 99, 100, 255, 256, 257, 1023, 1024, 1025,
	1<<31 - 1, 1 << 31, 1 << 32, 1<<32 + 1, 1<<32 + 20, math.MaxInt - 1, math.MaxInt,
}

// instr is an instruction with the bits of its number.
type instr struct {
	op, n int
	bits  uint64
}

func in(op, n int) instr { return instr{op: op, n: n} }

func push(x float64) instr { return instr{op: api.OpPush, bits: math.Float64bits(x)} }

func of(bits uint64) float64 { return math.Float64frombits(bits) }

func instrsOf(p api.Program) []instr {
	var all []instr
	for _, one := range p.Code {
		all = append(all, instr{one.Op, one.N, math.Float64bits(one.X)})
	}
	return all
}

// wantProgram makes sure of what Program tells, bit by bit, and that asking changes neither Len nor what it tells.
func wantProgram(t *testing.T, what string, b *asm.Builder, tag int, want ...instr) {
	t.Helper()
	for _, which := range []string{"", ", asked again"} {
		p, e := b.Program()
		if e != api.OK || p.Tag != tag || !slices.Equal(instrsOf(p), want) {
			t.Errorf("%s: Program%s: %d, %x, %d, want %d, %x", what, which, p.Tag, instrsOf(p), e, tag, want)
		}
		wantLen(t, what, b, len(want))
	}
}

// wantNone makes sure of an error beside which nothing is told.
func wantNone(t *testing.T, what string, b *asm.Builder, e api.Errno) {
	t.Helper()
	for _, which := range []string{"", ", asked again"} {
		was := b.Len()
		if p, got := b.Program(); got != e || p.Tag != 0 || len(p.Code) != 0 {
			t.Errorf("%s: Program%s: %v, %d, want %d", what, which, p, got, e)
		}
		wantLen(t, what, b, was)
	}
}

func wantLen(t *testing.T, what string, b *asm.Builder, n int) {
	t.Helper()
	if got := b.Len(); got != n {
		t.Errorf("%s: Len: %d, want %d", what, got, n)
	}
}

func wantLabel(t *testing.T, what string, b *asm.Builder, label int) {
	t.Helper()
	if got := b.Label(); got != label {
		t.Errorf("%s: Label: %d, want %d", what, got, label)
	}
}

// labelled is a builder for readers with so many labels.
func labelled(t *testing.T, labels int) *asm.Builder {
	t.Helper()
	b := asm.New(api.Reads)
	for label := range labels {
		wantLabel(t, "the labels at first", b, label)
	}
	return b
}

func halts(b *asm.Builder, many int) {
	for range many {
		b.Add(api.OpHalt, 0)
	}
}

// The chapter's examples.
func TestExamples(t *testing.T) {
	b := asm.New(api.Reads)
	wantLabel(t, "first", b, 0)
	b.Mark(0)
	b.Add(api.OpRet, 0)
	b.To(api.OpJump, 0)
	wantLen(t, "first", b, 2)
	wantProgram(t, "first", b, api.Reads, in(api.OpRet, 0), in(api.OpJump, 0))

	b = asm.New(api.Reads)
	wantLabel(t, "second", b, 0)
	b.To(api.OpJump, 0)
	wantNone(t, "second, marked nowhere", b, api.ErrLabel)
	b.Mark(0)
	wantNone(t, "second, marked behind the end", b, api.ErrBadProgram)
	b.Add(api.OpHalt, 0)
	wantProgram(t, "second", b, api.Reads, in(api.OpJump, 1), in(api.OpHalt, 0))
	b.Mark(0)
	wantNone(t, "second, marked twice", b, api.ErrLabel)

	b = asm.New(0)
	b.Add(api.OpHalt, 0)
	wantNone(t, "third, the tag 0", b, api.ErrBadProgram)
	b = asm.New(api.Reads)
	b.Mark(3)
	wantNone(t, "third, Mark of no label", b, api.ErrLabel)
	wantLabel(t, "third, the 257th label", labelled(t, 256), -1)
}

// A loop with two labels, one named ahead of its Mark: the example of README.md.
func TestLoop(t *testing.T) {
	b := asm.New(api.Reads)
	loop, out := b.Label(), b.Label()
	b.Push(3)
	b.Mark(loop)
	b.Add(api.OpDup, 0)
	b.Add(api.OpEmit, 0)
	b.Push(1)
	b.Add(api.OpTwo, api.TwoSub)
	b.Add(api.OpDup, 0)
	b.To(api.OpUnless, out)
	b.To(api.OpJump, loop)
	wantLen(t, "a loop", b, 8)
	wantNone(t, "a loop, without its end", b, api.ErrLabel)
	b.Mark(out)
	wantNone(t, "a loop, with its end behind the last", b, api.ErrBadProgram)
	b.Add(api.OpHalt, 0)
	wantProgram(t, "a loop", b, api.Reads, push(3), in(api.OpDup, 0), in(api.OpEmit, 0), push(1), in(api.OpTwo, api.TwoSub), in(api.OpDup, 0), in(api.OpUnless, 8), in(api.OpJump, 1), in(api.OpHalt, 0))
	b.Mark(out)
	wantNone(t, "a loop, its end marked twice", b, api.ErrLabel)
}

// P19.1: a new builder has neither instructions nor labels, whatever the tag is; the program has the tag, if there may be such a one.
func TestTags(t *testing.T) {
	for _, tag := range odd {
		what := fmt.Sprint("the tag ", tag)
		b := asm.New(tag)
		if b == nil {
			t.Fatalf("%s: no builder", what)
		}
		wantLen(t, what, b, 0)
		wantNone(t, what+", no instructions", b, api.ErrBadProgram)
		wantLabel(t, what, b, 0)
		b.To(api.OpJump, 0)
		wantNone(t, what+", marked nowhere", b, api.ErrLabel)
		b.Mark(0)
		b.Push(5)
		b.Add(api.OpHalt, 0)
		wantLen(t, what, b, 3)
		if tag == api.Reads || tag == api.Updates {
			wantProgram(t, what, b, tag, in(api.OpJump, 1), push(5), in(api.OpHalt, 0))
		} else {
			wantNone(t, what, b, api.ErrBadProgram)
		}
	}
}

// P19.1: Add takes whatever it is given, and counts it.
func TestAddTakesAll(t *testing.T) {
	all := asm.New(api.Updates)
	many := 0
	for _, op := range odd {
		for _, n := range odd {
			what := fmt.Sprint("Add of ", op, ", ", n)
			b := asm.New(api.Updates)
			b.Add(op, n)
			wantLen(t, what, b, 1)
			if _, e := b.Program(); (e == api.OK) != mayBeAlone(op, n) {
				t.Errorf("%s: Program: %d", what, e)
			}
			all.Add(op, n)
			many++
			wantLen(t, what+", behind others", all, many)
		}
	}
	wantNone(t, "all", all, api.ErrBadProgram)
}

// nMost is the greatest N of an operation, in the words of chapter 5; of a place in a program of so many.
func nMost(op, many int) int {
	switch op {
	case api.OpPick:
		return 63
	case api.OpArg, api.OpGet, api.OpSet:
		return 7
	case api.OpOne:
		return 8
	case api.OpTwo:
		return 12
	case api.OpJump, api.OpIf, api.OpUnless, api.OpCall:
		return many - 1
	case api.OpAbort:
		return 99
	}
	return 0
}

// mayBe tells, in the words of chapter 5, whether an instruction without a number may be in a program of so many.
func mayBe(op, n, many int) bool {
	least := 0
	if op == api.OpOne || op == api.OpTwo {
		least = 1
	}
	return op >= 1 && op <= 20 && n >= least && n <= nMost(op, many)
}

func mayBeAlone(op, n int) bool { return mayBe(op, n, 1) }

// P19.1: each operation by Add, with each N up to its greatest and one more, alone and in the midst of others; its number is +0.
func TestAddOfEachOperation(t *testing.T) {
	for op := -1; op <= 22; op++ {
		for n := -1; n <= 101; n++ {
			for _, beside := range []int{0, 1, 2, 50} {
				what := fmt.Sprintf("Add of %d, %d, with %d on each side", op, n, beside)
				b := asm.New(api.Updates)
				halts(b, beside)
				b.Add(op, n)
				halts(b, beside)
				many := 2*beside + 1
				wantLen(t, what, b, many)
				if !mayBe(op, n, many) {
					wantNone(t, what, b, api.ErrBadProgram)
					continue
				}
				want := slices.Repeat([]instr{in(api.OpHalt, 0)}, many)
				want[beside] = in(op, n)
				wantProgram(t, what, b, api.Updates, want...)
			}
		}
	}
}

// P19.1, R6: Push lays any number, fixed.
func TestPushTakesAllNumbers(t *testing.T) {
	b := asm.New(api.Reads)
	var want []instr
	for i, bits := range slices.Concat(plain, nans) {
		what := fmt.Sprintf("Push of %x", bits)
		right := bits
		if i >= len(plain) {
			right = oneNaN
		}
		alone := asm.New(api.Updates)
		alone.Push(of(bits))
		wantProgram(t, what, alone, api.Updates, instr{api.OpPush, 0, right})
		b.Push(of(bits))
		want = append(want, instr{api.OpPush, 0, right})
		wantProgram(t, what+", behind others", b, api.Reads, want...)
	}
}

// P19.1: To takes whatever it is given, and counts it.
func TestToTakesAll(t *testing.T) {
	all := asm.New(api.Reads)
	many := 0
	for _, op := range odd {
		for _, label := range odd {
			what := fmt.Sprint("To of ", op, ", ", label)
			b := asm.New(api.Reads)
			b.To(op, label)
			wantLen(t, what, b, 1)
			wantNone(t, what, b, api.ErrLabel)
			all.To(op, label)
			many++
			wantLen(t, what+", behind others", all, many)
		}
	}
	wantNone(t, "all", all, api.ErrLabel)
}

// P19.1: To of each operation: the place is its N, whatever N is for it, and then counts as such.
func TestToOfEachOperation(t *testing.T) {
	for op := -1; op <= 22; op++ {
		for place := 0; place <= 101; place++ {
			for _, behind := range []int{0, 1, 3} {
				what := fmt.Sprintf("To of %d at the place %d, then %d more", op, place, behind)
				b := labelled(t, 1)
				halts(b, place)
				b.Mark(0)
				halts(b, behind)
				b.To(op, 0)
				many := place + behind + 1
				wantLen(t, what, b, many)
				if !mayBe(op, place, many) {
					wantNone(t, what, b, api.ErrBadProgram)
					continue
				}
				want := slices.Repeat([]instr{in(api.OpHalt, 0)}, many)
				want[many-1] = in(op, place)
				wantProgram(t, what, b, api.Reads, want...)
			}
		}
	}
}

// P19.1, P19.3: no instructions at all, MaxCode of them, one more and many more, by each of the calls that add one.
func TestHowMany(t *testing.T) {
	add := map[string]func(b *asm.Builder){
		"Add":  func(b *asm.Builder) { b.Add(api.OpHalt, 0) },
		"Push": func(b *asm.Builder) { b.Push(0) },
		"To":   func(b *asm.Builder) { b.To(api.OpJump, 0) },
	}
	made := map[string]instr{"Add": in(api.OpHalt, 0), "Push": push(0), "To": in(api.OpJump, 0)}
	for name, one := range add {
		b := labelled(t, 1)
		b.Mark(0)
		wantNone(t, name+", none", b, api.ErrBadProgram)
		for many := 1; many <= 3000; many++ {
			one(b)
			what := fmt.Sprint(name, ", ", many, " times")
			wantLen(t, what, b, many)
			if many > 1024 {
				wantNone(t, what, b, api.ErrBadProgram)
			} else if many < 5 || many > 1020 {
				wantProgram(t, what, b, api.Reads, slices.Repeat([]instr{made[name]}, many)...)
			}
		}
		b.Mark(0)
		wantNone(t, name+", too many, and a label marked twice", b, api.ErrLabel)
	}
}

// P19.2: labels up to MaxLabels, and none behind them, however often one is asked for.
func TestAllLabels(t *testing.T) {
	b := asm.New(api.Updates)
	for label := range 256 {
		wantLabel(t, "one of 256", b, label)
		b.Mark(label)
		b.To(api.OpJump, label)
	}
	var want []instr
	for place := range 256 {
		want = append(want, in(api.OpJump, place))
	}
	for range 300 {
		wantLabel(t, "one more", b, -1)
	}
	wantProgram(t, "256 labels", b, api.Updates, want...)
	for _, label := range []int{-1, 256, 257} {
		b := labelled(t, 256)
		wantLabel(t, "one more", b, -1)
		halts(b, 1)
		b.Mark(label)
		wantNone(t, fmt.Sprint("Mark of ", label), b, api.ErrLabel)
		b = labelled(t, 256)
		wantLabel(t, "one more", b, -1)
		b.To(api.OpJump, label)
		wantNone(t, fmt.Sprint("To of ", label), b, api.ErrLabel)
	}
}

// P19.2: labels are numbered by how many there were, whatever is done between.
func TestLabelsBetweenOtherCalls(t *testing.T) {
	b := asm.New(api.Reads)
	for label := range 256 {
		b.Mark(1000 - label)
		b.To(api.OpIf, label-5)
		wantLabel(t, "behind Mark and To", b, label)
		b.Add(api.OpNone, -1)
		b.Push(3)
		b.Program()
		b.Len()
	}
	wantLabel(t, "behind 256", b, -1)
}

// P19.2: a label at each place of a program, from the first one to the one behind the last.
func TestMarkAtEachPlace(t *testing.T) {
	for many := 1; many <= 12; many++ {
		for place := 0; place <= many; place++ {
			for at := range many {
				what := fmt.Sprintf("%d instructions, the label at %d, the To at %d", many, place, at)
				b := labelled(t, 1)
				want := []instr{}
				for i := range many + 1 {
					if i == place {
						b.Mark(0)
					}
					if i == many {
						break
					}
					if i == at {
						b.To(api.OpUnless, 0)
						want = append(want, in(api.OpUnless, place))
					} else {
						b.Push(float64(i))
						want = append(want, push(float64(i)))
					}
				}
				if place == many {
					wantNone(t, what, b, api.ErrBadProgram)
				} else {
					wantProgram(t, what, b, api.Reads, want...)
				}
			}
		}
	}
}
