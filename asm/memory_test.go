package asm_test

import (
	"fmt"
	"math"
	"testing"

	"beadle/api"
	"beadle/asm"
)

func made(t *testing.T, what string, b *asm.Builder) api.Program {
	t.Helper()
	p, e := b.Program()
	if e != api.OK {
		t.Fatalf("%s: Program: %d", what, e)
	}
	return p
}

// overwrite changes all of a program's instructions, and whatever room there is behind them.
func overwrite(p api.Program) {
	whole := p.Code[:cap(p.Code)]
	for i := range whole {
		whole[i] = api.Instr{Op: -9, N: -9, X: math.Inf(-1)}
	}
}

// R4: what Program told is changed neither by what the builder does behind it nor by what is done to another answer, nor is the builder by a change of what it told.
func TestAnswersAreNewMemory(t *testing.T) {
	for many := 1; many <= 40; many++ {
		what := fmt.Sprint(many, " instructions")
		b := labelled(t, 2)
		b.Mark(0)
		want := []instr{}
		for i := range many {
			if i%3 == 1 {
				b.To(api.OpIf, 0)
				want = append(want, in(api.OpIf, 0))
			} else {
				b.Push(float64(i))
				want = append(want, push(float64(i)))
			}
		}
		kept, spoilt := made(t, what, b), made(t, what, b)
		wantOf := func(when string, p api.Program) {
			t.Helper()
			if got := instrsOf(p); p.Tag != api.Reads || fmt.Sprint(got) != fmt.Sprint(want) {
				t.Errorf("%s, %s: %v, want %v", what, when, got, want)
			}
		}
		overwrite(spoilt)
		wantOf("as another one is overwritten", kept)
		wantProgram(t, what+", as an answer is overwritten", b, api.Reads, want...)
		room := append(spoilt.Code, api.Instr{Op: -8})
		b.Add(api.OpDup, 0)
		overwrite(spoilt)
		if len(room) != many+1 || room[many].Op != -8 && room[many].Op != -9 {
			t.Errorf("%s: the builder wrote behind its answer: %v", what, room[many])
		}
		wantOf("as one more is added", kept)
		wantProgram(t, what+", one more", b, api.Reads, append(want[:many:many], in(api.OpDup, 0))...)
		b.Mark(1)
		b.To(api.OpCall, 1)
		wantProgram(t, what+", two more", b, api.Reads, append(want[:many:many], in(api.OpDup, 0), in(api.OpCall, many+1))...)
		b.Mark(0)
		wantNone(t, what+", marked twice", b, api.ErrLabel)
		wantOf("as a label is marked twice", kept)
	}
}

// R4, R5: what lies behind a list that is answered is the caller's own too: two answers, each with something added, and the builder go on apart.
func TestRoomBehindAnswers(t *testing.T) {
	for many := 1; many <= 40; many++ {
		b := asm.New(api.Updates)
		halts(b, many)
		one, other := made(t, "one", b), made(t, "other", b)
		_ = append(one.Code, api.Instr{Op: api.OpDrop})
		second := append(other.Code, api.Instr{Op: api.OpDup})
		_ = append(one.Code, api.Instr{Op: api.OpSwap})
		b.Add(api.OpEmit, 0)
		if second[many].Op != api.OpDup {
			t.Errorf("%d instructions: behind them stands %v", many, second[many])
		}
		if p := made(t, "the builder", b); p.Code[many].Op != api.OpEmit {
			t.Errorf("%d instructions: the builder's next one is %v", many, p.Code[many])
		}
	}
}

// R5: two builders beside one another, turn by turn, have nothing to do with one another.
func TestTwoBuilders(t *testing.T) {
	a, b := asm.New(api.Reads), asm.New(api.Updates)
	wantLabel(t, "the first one", a, 0)
	wantLabel(t, "the first one", a, 1)
	wantLabel(t, "the second one", b, 0)
	a.Push(1)
	a.Mark(0)
	b.To(api.OpJump, 0)
	a.To(api.OpIf, 0)
	wantNone(t, "the second one, marked in the first one alone", b, api.ErrLabel)
	b.Add(api.OpRead, 0)
	wantLen(t, "the first one", a, 2)
	b.Mark(0)
	b.Push(2)
	wantLen(t, "the second one", b, 3)
	wantProgram(t, "the first one", a, api.Reads, push(1), in(api.OpIf, 1))
	wantProgram(t, "the second one", b, api.Updates, in(api.OpJump, 2), in(api.OpRead, 0), push(2))
	b.To(api.OpJump, 1)
	wantNone(t, "the second one, a label of the first one alone", b, api.ErrLabel)
	a.Mark(0)
	wantNone(t, "the first one, marked twice", a, api.ErrLabel)
	c := asm.New(api.Reads)
	wantLabel(t, "a third one", c, 0)
	c.Mark(0)
	c.To(api.OpCall, 0)
	wantProgram(t, "a third one", c, api.Reads, in(api.OpCall, 0))
	b.Mark(1)
	wantLabel(t, "the second one", b, 1)
	b.Add(api.OpHalt, 0)
	wantProgram(t, "the second one, at last", b, api.Updates, in(api.OpJump, 2), in(api.OpRead, 0), push(2), in(api.OpJump, 4), in(api.OpHalt, 0))
}
