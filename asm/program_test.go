package asm_test

import (
	"fmt"
	"math"
	"testing"

	"beadle/api"
	"beadle/asm"
)

// noLabels are numbers that name no label of a builder that has so many.
func noLabels(labels int) []int {
	all := []int{labels, labels + 1, labels + 7, labels + 1<<32, 1 << 32, 257, 1024}
	for _, n := range odd {
		if n < 0 || n > 256 {
			all = append(all, n)
		}
	}
	return all
}

// P19.3: a To that names no label, among others that do.
func TestToOfNoLabel(t *testing.T) {
	for _, labels := range []int{0, 1, 2, 255, 256} {
		for _, label := range noLabels(labels) {
			for _, op := range []int{api.OpJump, api.OpIf, api.OpUnless, api.OpCall, api.OpHalt, api.OpNone, -5} {
				what := fmt.Sprintf("%d labels, To of %d, %d", labels, op, label)
				b := labelled(t, labels)
				for l := range labels {
					b.Mark(l)
				}
				halts(b, 2)
				b.To(op, label)
				halts(b, 2)
				wantNone(t, what, b, api.ErrLabel)
				b.Mark(label)
				wantNone(t, what+", marked", b, api.ErrLabel)
			}
		}
	}
}

// P19.3: a To that names a label which is marked nowhere, the first, the last or one between, while the others are marked.
func TestToOfLabelThatIsMarkedNowhere(t *testing.T) {
	for _, labels := range []int{1, 2, 5, 256} {
		for _, label := range []int{0, labels / 2, labels - 1} {
			for _, first := range []bool{true, false} {
				what := fmt.Sprintf("label %d of %d, ahead of the others' To: %t", label, labels, first)
				b := labelled(t, labels)
				var want []instr
				to := func(l, place int) {
					b.To(api.OpCall, l)
					want = append(want, in(api.OpCall, place))
				}
				if first {
					to(label, labels)
				}
				for l := range labels {
					if l != label {
						b.Mark(l)
						to(l, b.Len())
					}
				}
				if !first {
					to(label, labels)
				}
				wantNone(t, what, b, api.ErrLabel)
				b.Mark(label)
				wantNone(t, what+", marked behind the last", b, api.ErrBadProgram)
				halts(b, 1)
				wantProgram(t, what+", marked", b, api.Reads, append(want, in(api.OpHalt, 0))...)
			}
		}
	}
}

// P19.3: a label that nothing names need be marked nowhere; one that is marked need not be named.
func TestLabelsThatNothingNames(t *testing.T) {
	b := labelled(t, 3)
	halts(b, 1)
	wantProgram(t, "none of 3 is marked", b, api.Reads, in(api.OpHalt, 0))
	b.Mark(1)
	wantProgram(t, "one is marked", b, api.Reads, in(api.OpHalt, 0))
	b.Mark(0)
	b.To(api.OpJump, 1)
	wantProgram(t, "two are marked, one is named", b, api.Reads, in(api.OpHalt, 0), in(api.OpJump, 1))
	b.Mark(2)
	wantProgram(t, "all are marked", b, api.Reads, in(api.OpHalt, 0), in(api.OpJump, 1))
}

// P19.3: a Mark that names no label, at the first place, in the midst, behind the last instruction.
func TestMarkOfNoLabel(t *testing.T) {
	for _, labels := range []int{0, 1, 2, 255, 256} {
		for _, label := range noLabels(labels) {
			for place := range 4 {
				what := fmt.Sprintf("%d labels, Mark of %d at %d", labels, label, place)
				b := labelled(t, labels)
				halts(b, place)
				b.Mark(label)
				halts(b, 3-place)
				wantLen(t, what, b, 3)
				wantNone(t, what, b, api.ErrLabel)
				b.Mark(label)
				wantNone(t, what+", twice", b, api.ErrLabel)
			}
		}
	}
}

// P19.3: a label that is marked twice, at one place or at two, named by a To or not, ahead of the Marks, between them or behind.
func TestMarkedTwice(t *testing.T) {
	for _, labels := range []int{1, 2, 256} {
		for _, label := range []int{0, labels - 1} {
			for named := range 5 { // 4: not at all
				for first := range 4 {
					for second := first; second < 4; second++ {
						what := fmt.Sprintf("label %d of %d, at %d and %d, named at %d", label, labels, first, second, named)
						b := labelled(t, labels)
						for place := range 4 {
							if place == first {
								b.Mark(label)
							}
							if place == second {
								wantMarkSpoils(t, what, b, label)
							}
							if place == named {
								b.To(api.OpJump, label)
							} else {
								b.Add(api.OpHalt, 0)
							}
						}
						wantNone(t, what, b, api.ErrLabel)
						b.Mark(label)
						wantNone(t, what+", a third time", b, api.ErrLabel)
					}
				}
			}
		}
	}
}

// wantMarkSpoils marks a label once more, which was right till then (though its place may be none as yet).
func wantMarkSpoils(t *testing.T, what string, b *asm.Builder, label int) {
	t.Helper()
	if _, e := b.Program(); e == api.ErrLabel {
		t.Errorf("%s: ErrLabel ahead of the second Mark", what)
	}
	b.Mark(label)
	wantNone(t, what+", as it is marked again", b, api.ErrLabel)
}

// P19.3: two labels at one place, and one's Mark behind the other's, is no label marked twice.
func TestTwoLabelsAtOnePlace(t *testing.T) {
	b := labelled(t, 3)
	halts(b, 1)
	b.Mark(2)
	b.Mark(0)
	b.To(api.OpIf, 0)
	b.Mark(1)
	b.To(api.OpUnless, 2)
	b.To(api.OpCall, 1)
	wantProgram(t, "two labels at one place", b, api.Reads, in(api.OpHalt, 0), in(api.OpIf, 1), in(api.OpUnless, 1), in(api.OpCall, 2))
}

// P19.3: whatever a To and a Mark name is a label, if it is one when Program is called.
func TestNamedAheadOfItsLabel(t *testing.T) {
	for _, label := range []int{0, 1, 5, 254, 255} {
		what := fmt.Sprint("label ", label)
		b := asm.New(api.Updates)
		b.To(api.OpCall, label)
		b.Mark(label)
		b.To(api.OpIf, label)
		for l := range label + 1 {
			wantNone(t, what+", ahead of its Label", b, api.ErrLabel)
			wantLabel(t, what, b, l)
		}
		want := []instr{in(api.OpCall, 1), in(api.OpIf, 1)}
		wantProgram(t, what, b, api.Updates, want...)
		if b.Label() != -1 {
			wantProgram(t, what+", with one more", b, api.Updates, want...)
		}
	}
	b := asm.New(api.Reads)
	halts(b, 1)
	b.Mark(0)
	b.Mark(0)
	wantLabel(t, "marked twice ahead of its Label", b, 0)
	wantNone(t, "marked twice ahead of its Label", b, api.ErrLabel)
	b = asm.New(api.Reads)
	halts(b, 1)
	b.Mark(0)
	wantLabel(t, "marked ahead of its Label and behind", b, 0)
	wantProgram(t, "marked ahead of its Label", b, api.Reads, in(api.OpHalt, 0))
	b.Mark(0)
	wantNone(t, "marked ahead of its Label and behind", b, api.ErrLabel)
	b = labelled(t, 256)
	b.To(api.OpJump, 256)
	b.Mark(256)
	wantLabel(t, "the 257th", b, -1)
	wantNone(t, "the 257th, named and marked", b, api.ErrLabel)
}

// P19.3: a label behind the last instruction: where a To names it, there is no such place; else it may be.
func TestMarkedBehindTheLast(t *testing.T) {
	for many := 1; many <= 5; many++ {
		for _, op := range []int{api.OpJump, api.OpIf, api.OpUnless, api.OpCall} {
			what := fmt.Sprintf("%d instructions, To of %d", many, op)
			b := labelled(t, 1)
			want := []instr{}
			for i := range many {
				b.Push(float64(i))
				want = append(want, push(float64(i)))
			}
			b.Mark(0)
			wantProgram(t, what+", not yet", b, api.Reads, want...)
			b.To(op, 0)
			want = append(want, in(op, many))
			wantProgram(t, what+", behind the Mark", b, api.Reads, want...)

			b = labelled(t, 1)
			b.To(op, 0)
			halts(b, many-1)
			b.Mark(0)
			wantNone(t, what, b, api.ErrBadProgram)
			halts(b, 1)
			want = []instr{in(op, many)}
			for range many {
				want = append(want, in(api.OpHalt, 0))
			}
			wantProgram(t, what+", one more behind the Mark", b, api.Reads, want...)
		}
	}
}

// P19.3: ErrLabel comes ahead of ErrBadProgram, wherever what is wrong stands.
func TestWhichErrorComes(t *testing.T) {
	labels := map[string]func(b *asm.Builder){
		"a To of no label":           func(b *asm.Builder) { b.To(api.OpJump, 9) },
		"a To of a negative one":     func(b *asm.Builder) { b.To(api.OpJump, -1) },
		"a To of one marked nowhere": func(b *asm.Builder) { b.To(api.OpJump, 1) },
		"a Mark of no label":         func(b *asm.Builder) { b.Mark(2) },
		"a Mark of a negative one":   func(b *asm.Builder) { b.Mark(math.MinInt) },
		"a label marked twice":       func(b *asm.Builder) { b.Mark(0); b.Mark(0) },
	}
	programs := map[string]func(b *asm.Builder){
		"an operation that is none": func(b *asm.Builder) { b.Add(0, 0) },
		"an N that may not be":      func(b *asm.Builder) { b.Add(api.OpHalt, 1) },
		"a place that is none":      func(b *asm.Builder) { b.Add(api.OpJump, 5000) },
		"too many":                  func(b *asm.Builder) { halts(b, 1025) },
		"a To of no operation":      func(b *asm.Builder) { b.To(21, 1) },
		"nothing":                   func(b *asm.Builder) {},
	}
	for label, labelWrong := range labels {
		for program, programWrong := range programs {
			for _, tag := range []int{api.Reads, 0, 3} {
				for _, first := range []bool{true, false} {
					b := asm.New(tag)
					b.Label()
					b.Label()
					if first {
						labelWrong(b)
						programWrong(b)
					} else {
						programWrong(b)
						labelWrong(b)
					}
					wantNone(t, fmt.Sprintf("%s and %s, the tag %d", label, program, tag), b, api.ErrLabel)
				}
			}
		}
	}
}

// P19.3: whatever code.Check refuses is ErrBadProgram, with labels that are right beside it.
func TestWhatMayNotBe(t *testing.T) {
	wrong := map[string]func(b *asm.Builder){
		"no operation":            func(b *asm.Builder) { b.Add(api.OpNone, 0) },
		"one behind the last":     func(b *asm.Builder) { b.Add(api.OpHalt+1, 0) },
		"a negative one":          func(b *asm.Builder) { b.Add(-1, 0) },
		"push with an N":          func(b *asm.Builder) { b.Add(api.OpPush, 1) },
		"halt with an N":          func(b *asm.Builder) { b.Add(api.OpHalt, -1) },
		"pick":                    func(b *asm.Builder) { b.Add(api.OpPick, 64) },
		"arg":                     func(b *asm.Builder) { b.Add(api.OpArg, 8) },
		"get":                     func(b *asm.Builder) { b.Add(api.OpGet, 8) },
		"set":                     func(b *asm.Builder) { b.Add(api.OpSet, -1) },
		"one":                     func(b *asm.Builder) { b.Add(api.OpOne, 0) },
		"two":                     func(b *asm.Builder) { b.Add(api.OpTwo, 13) },
		"abort":                   func(b *asm.Builder) { b.Add(api.OpAbort, 100) },
		"a place behind the last": func(b *asm.Builder) { b.Add(api.OpJump, 5) },
		"a place ahead":           func(b *asm.Builder) { b.Add(api.OpCall, -1) },
		"To of no operation":      func(b *asm.Builder) { b.To(0, 0) },
		"To of halt":              func(b *asm.Builder) { b.To(api.OpHalt, 0) },
		"To of push":              func(b *asm.Builder) { b.To(api.OpPush, 0) },
	}
	for what, one := range wrong {
		for place := range 5 {
			b := labelled(t, 1)
			b.Add(api.OpEmit, 0)
			b.Mark(0)
			for i := range 4 {
				if i == place {
					one(b)
				} else {
					b.To(api.OpJump, 0)
				}
			}
			if place == 4 {
				wantProgram(t, "all right", b, api.Reads, in(api.OpEmit, 0), in(api.OpJump, 1), in(api.OpJump, 1), in(api.OpJump, 1), in(api.OpJump, 1))
				continue
			}
			wantNone(t, what, b, api.ErrBadProgram)
		}
	}
	// What is no place is as it may be for its operation, behind the last instruction too.
	b := labelled(t, 1)
	b.To(api.OpPick, 0)
	b.Mark(0)
	wantProgram(t, "pick of a label behind the last", b, api.Reads, in(api.OpPick, 1))
}

// P19.3: the builder goes on as if it had not been asked, behind each of the errors and behind a program.
func TestGoesOn(t *testing.T) {
	b := asm.New(api.Updates)
	wantNone(t, "nothing there", b, api.ErrBadProgram)
	b.To(api.OpJump, 1)
	wantNone(t, "no label", b, api.ErrLabel)
	wantLabel(t, "behind ErrLabel", b, 0)
	wantLabel(t, "behind ErrLabel", b, 1)
	wantNone(t, "marked nowhere", b, api.ErrLabel)
	b.Mark(1)
	wantNone(t, "behind the last", b, api.ErrBadProgram)
	b.Push(-7)
	want := []instr{in(api.OpJump, 1), push(-7)}
	wantProgram(t, "behind ErrBadProgram", b, api.Updates, want...)
	b.To(api.OpIf, 0)
	wantNone(t, "the other one is marked nowhere", b, api.ErrLabel)
	b.Mark(0)
	b.Add(api.OpAbort, 9)
	want = append(want, in(api.OpIf, 3), in(api.OpAbort, 9))
	wantProgram(t, "behind a program and ErrLabel", b, api.Updates, want...)
	b.To(api.OpCall, 1)
	wantLabel(t, "behind a program", b, 2)
	want = append(want, in(api.OpCall, 1))
	wantProgram(t, "behind two programs", b, api.Updates, want...)
	b.Add(api.OpHalt, 3)
	wantNone(t, "an N that may not be", b, api.ErrBadProgram)
	b.Mark(0)
	wantNone(t, "marked twice", b, api.ErrLabel)
	wantLabel(t, "behind all", b, 3)
	wantLen(t, "behind all", b, 6)
}
