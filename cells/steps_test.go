package cells_test

import (
	"fmt"
	"math"
	"slices"
	"testing"

	"beadle/api"
	"beadle/cells"
	"beadle/mem"
)

// stepper is a read or a write.
type stepper interface {
	Step(m *mem.Mem) (bool, api.Errno)
}

// wantSteps: as many steps as there are truths, each with an access of its own, each telling its truth.
func wantSteps(t *testing.T, what string, m *mem.Mem, s stepper, truths ...bool) {
	t.Helper()
	for i, want := range truths {
		count := m.Count()
		m.Open()
		over, e := s.Step(m)
		wantErrno(t, fmt.Sprint(what, ", step ", i), e, api.OK)
		if over != want {
			t.Errorf("%s, step %d: %v, want %v", what, i, over, want)
		}
		if m.Count() != count+1 || isOpen(m) {
			t.Errorf("%s, step %d: %d accesses, open %v", what, i, m.Count()-count, isOpen(m))
		}
	}
}

// wantNoStep: refused, with nothing told and nothing changed.
func wantNoStep(t *testing.T, what string, m *mem.Mem, s stepper, want api.Errno) {
	t.Helper()
	words, open, count := m.All(), isOpen(m), m.Count()
	over, e := s.Step(m)
	wantErrno(t, what, e, want)
	if over {
		t.Errorf("%s: refused, and over", what)
	}
	wantMem(t, what, m, words, open, count)
}

// wantRead holds all that a read tells against what it should be.
func wantRead(t *testing.T, what string, r *cells.Reading, value uint64, steps int, torn bool) {
	t.Helper()
	wantNumber(t, what+": Value", r.Value(), value)
	if r.Steps() != steps || r.Torn() != torn {
		t.Errorf("%s: Steps %d, Torn %v, want %d, %v", what, r.Steps(), r.Torn(), steps, torn)
	}
}

// poked lays words, the first one first, beside the steps.
func poked(m *mem.Mem, words ...uint64) {
	for i, bits := range words {
		m.Poke(i, bits)
	}
}

// stamps are stamps and versions about each edge.
var stamps = []uint64{0, 1, 2, 3, 1<<31 - 1, 1 << 31, 1 << 32, 1<<63 - 1, 1 << 63, 1<<63 + 1, math.MaxUint64 - 1, math.MaxUint64}

// P11.4, P11.7, P11.8: where nothing changes: two steps, if the version is above the stamp, else three; what At tells.
func TestReadOfWordsThatStay(t *testing.T) {
	for _, version := range stamps {
		for _, stamp := range stamps {
			for _, now := range odd() {
				m := holding(t, 91, version, now, now^1, 92)
				what := fmt.Sprint("version ", version, ", stamp ", stamp)
				r := cells.Read(at(1), 0, stamp)
				wantRead(t, what+", begun", r, 0, 0, false)
				wantSteps(t, what, m, r, false)
				wantRead(t, what+", first", r, 0, 1, false)
				x, _ := cells.Peek(m, at(1), 0)
				want := bitsOf(cells.At(x, stamp))
				if version > stamp {
					wantSteps(t, what, m, r, true)
					wantRead(t, what, r, want, 2, false)
					wantNumber(t, what+", At", of(want), fixed(now^1))
					continue
				}
				wantSteps(t, what, m, r, false)
				wantRead(t, what+", second", r, 0, 2, false)
				wantSteps(t, what, m, r, true)
				wantRead(t, what, r, want, 3, false)
				wantNumber(t, what+", At", of(want), fixed(now))
			}
		}
	}
}

// P11.4: just the word of each step is loaded, and it is loaded then: all others are laid anew around it.
func TestReadLoadsOneWordAStep(t *testing.T) {
	m := holding(t, 4, 101, 102)
	r := cells.Read(at(0), 0, 4)
	wantSteps(t, "Version", m, r, false)
	poked(m, 103, bitsOf(8), 104)
	wantSteps(t, "Now", m, r, false)
	poked(m, 4, 105, 106)
	wantSteps(t, "Version again", m, r, true)
	wantRead(t, "as it was", r, bitsOf(8), 3, false)

	m = holding(t, 5, 101, 102)
	r = cells.Read(at(0), 0, 4)
	wantSteps(t, "Version above", m, r, false)
	poked(m, 0, 103, bitsOf(9))
	wantSteps(t, "Was", m, r, true)
	wantRead(t, "what it had", r, bitsOf(9), 2, false)

	m = holding(t, 4, 101, 102)
	r = cells.Read(at(0), 0, 4)
	wantSteps(t, "Version", m, r, false)
	poked(m, 5, bitsOf(8), 104)
	wantSteps(t, "Now", m, r, false)
	poked(m, 6, 105, 106)
	wantSteps(t, "Version again", m, r, false)
	poked(m, 4, 107, bitsOf(6))
	wantSteps(t, "Was of a torn one", m, r, true)
	wantRead(t, "torn", r, bitsOf(6), 4, true)
}

// P11.4: torn, if the version is another one, be it above the stamp or not, above the first one or below it.
func TestReadIsTornByAnyOtherVersion(t *testing.T) {
	for _, stamp := range stamps {
		for _, first := range stamps {
			for _, second := range stamps {
				m := holding(t, first, bitsOf(3), bitsOf(2))
				what := fmt.Sprint("stamp ", stamp, ", versions ", first, " and ", second)
				r := cells.Read(at(0), 0, stamp)
				wantSteps(t, what, m, r, false)
				m.Poke(0, second)
				if first > stamp {
					wantSteps(t, what, m, r, true)
					wantRead(t, what, r, bitsOf(2), 2, false)
					continue
				}
				wantSteps(t, what, m, r, false)
				if first == second {
					wantSteps(t, what, m, r, true)
					wantRead(t, what, r, bitsOf(3), 3, false)
					continue
				}
				wantSteps(t, what, m, r, false)
				wantRead(t, what+", torn", r, 0, 3, true)
				wantSteps(t, what, m, r, true)
				wantRead(t, what, r, bitsOf(2), 4, true)
			}
		}
	}
}

// readings are reads of two steps, of three and of four, over a memory of three words, with what lays the words ahead of each step.
var readings = []struct {
	name  string
	words [][]uint64
	value uint64
	torn  bool
}{
	{"two steps", [][]uint64{{6, 1, 2}, {6, 1, 0x4000000000000000}}, 0x4000000000000000, false},
	{"three steps", [][]uint64{{5, 1, 2}, {5, 0x3ff0000000000000, 2}, {5, 3, 4}}, 0x3ff0000000000000, false},
	{"four steps", [][]uint64{{5, 1, 2}, {6, 9, 2}, {6, 8, 4}, {7, 1, 0x8000000000000000}}, 0x8000000000000000, true},
}

// P11.4: a Step of what is over, open or not, with cells that may be or not any more: ErrState, and all stays told.
func TestReadThatIsOver(t *testing.T) {
	for _, one := range readings {
		m := holding(t, one.words[0]...)
		r := cells.Read(at(0), 0, 5)
		for i, words := range one.words {
			poked(m, words...)
			wantSteps(t, one.name, m, r, i == len(one.words)-1)
		}
		for range 3 {
			wantNoStep(t, one.name+", over", m, r, api.ErrState)
			wantRead(t, one.name+", over", r, one.value, len(one.words), one.torn)
		}
		m.Open()
		wantNoStep(t, one.name+", over and open", m, r, api.ErrState)
		wantNoStep(t, one.name+", over, without its words", filled(t, 1), r, api.ErrState)
		wantNoStep(t, one.name+", its clone", m, r.Clone(), api.ErrState)
		poked(m, 77, 78, 79)
		wantRead(t, one.name+", with other words", r, one.value, len(one.words), one.torn)
	}
}

// P11.4, P11.7: each step with no access open fails, however often, changes nothing, and is tried again.
func TestReadWithNoneOpen(t *testing.T) {
	for _, one := range readings {
		m := holding(t, one.words[0]...)
		r := cells.Read(at(0), 0, 5)
		for i, words := range one.words {
			for range 3 {
				poked(m, 50, 51, 52)
				torn := one.torn && i == 3
				wantNoStep(t, one.name+", none open", m, r, api.ErrSpent)
				wantRead(t, one.name+", none open", r, 0, i, torn)
			}
			poked(m, words...)
			wantSteps(t, one.name, m, r, i == len(one.words)-1)
		}
		wantRead(t, one.name, r, one.value, len(one.words), one.torn)
	}
}

// P11.4: a step looks at its own word alone; where that is not there, ErrPlace, be it open or not, and the step is tried again.
func TestReadOfACellThatIsNotAllThere(t *testing.T) {
	needs := map[string][]int{"two steps": {1, 3}, "three steps": {1, 2, 1}, "four steps": {1, 2, 1, 3}}
	for _, one := range readings {
		r := cells.Read(at(2), 0, 5)
		for i, words := range one.words {
			need := needs[one.name][i]
			for there := range need {
				short := filled(t, 2+there)
				wantNoStep(t, fmt.Sprint(one.name, ", step ", i, " of ", there, " words, not open"), short, r, api.ErrPlace)
				short.Open()
				wantNoStep(t, fmt.Sprint(one.name, ", step ", i, " of ", there, " words"), short, r, api.ErrPlace)
				wantRead(t, one.name, r, 0, i, one.torn && i == 3)
			}
			just := holding(t, slices.Concat([]uint64{0, 0}, words[:need])...)
			wantNoStep(t, one.name+", just enough, not open", just, r, api.ErrSpent)
			wantSteps(t, fmt.Sprint(one.name, ", step ", i, " of ", need, " words"), just, r, i == len(one.words)-1)
		}
		wantRead(t, one.name, r, one.value, len(one.words), one.torn)
	}
}

// P11.4, P11.5: cells that may not be: ErrCell ahead of ErrPlace and ErrSpent, as often as it is tried.
func TestStepsOfNoCell(t *testing.T) {
	for _, cell := range notCells {
		for _, base := range append([]int{0, 3, api.MaxWords}, notBases...) {
			r, w := cells.Read(at(base), cell, 9), cells.Write(at(base), cell, 9, 1, 2)
			for _, words := range []int{1, api.MaxWords} {
				m := filled(t, words)
				for range 2 {
					what := fmt.Sprint("the cell ", cell, " at ", base, " of ", words)
					wantNoStep(t, what+", read", m, r, api.ErrCell)
					wantNoStep(t, what+", write", m, w, api.ErrCell)
					wantRead(t, what, r, 0, 0, false)
					m.Open()
				}
			}
		}
	}
}

// P11.4, P11.5: cells that begin nowhere, even where a later cell's words would be there.
func TestStepsAtNoBase(t *testing.T) {
	m := filled(t, api.MaxWords)
	open := m.Clone()
	open.Open()
	for _, base := range append(slices.Clone(notBases), api.MaxWords) {
		for _, cell := range []int{0, 1, 2, 100, 255} {
			r, w := cells.Read(at(base), cell, 9), cells.Write(at(base), cell, 9, 1, 2)
			for _, one := range []*mem.Mem{m, open} {
				what := fmt.Sprint("the cell ", cell, " at ", base)
				wantNoStep(t, what+", read", one, r, api.ErrPlace)
				wantNoStep(t, what+", write", one, w, api.ErrPlace)
				wantRead(t, what, r, 0, 0, false)
			}
		}
	}
}

// P11.4, P11.5: the first cell and the last one, where the memory has just their words.
func TestStepsOfEachCell(t *testing.T) {
	for _, base := range []int{0, 1, 3, 11} {
		for _, cell := range []int{0, 1, 2, 254, 255} {
			what := fmt.Sprint("the cell ", cell, " at ", base)
			m := filled(t, base+3*cell+3)
			want := m.All()
			wantSteps(t, what, m, cells.Write(at(base), cell, 3, 1, 2), false, false, true)
			copy(want[base+3*cell:], []uint64{3, bitsOf(2), bitsOf(1)})
			wantMem(t, what, m, want, false, 3)
			r := cells.Read(at(base), cell, 3)
			wantSteps(t, what, m, r, false, false, true)
			wantRead(t, what, r, bitsOf(2), 3, false)
			r = cells.Read(at(base), cell, 2)
			wantSteps(t, what, m, r, false, true)
			wantRead(t, what, r, bitsOf(1), 2, false)
			wantMem(t, what, m, want, false, 8)
		}
	}
}

// P11.5: the three steps in their order, and the words behind each.
func TestWrite(t *testing.T) {
	for _, version := range stamps {
		m := filled(t, 9)
		w := cells.Write(at(1), 1, version, 5, 7)
		want := m.All()
		wantMem(t, "begun", m, want, false, 0)
		wantSteps(t, "Was", m, w, false)
		want[6] = bitsOf(5)
		wantMem(t, "Was", m, want, false, 1)
		wantSteps(t, "Version", m, w, false)
		want[4] = version
		wantMem(t, "Version", m, want, false, 2)
		wantSteps(t, "Now", m, w, true)
		want[5] = bitsOf(7)
		wantMem(t, "Now", m, want, false, 3)
		wantNoStep(t, "over", m, w, api.ErrState)
		m.Open()
		wantNoStep(t, "over and open", m, w, api.ErrState)
		wantNoStep(t, "over, without its words", filled(t, 1), w, api.ErrState)
		wantNoStep(t, "its clone", m, w.Clone(), api.ErrState)
	}
}

// P11.5, R6: both numbers are fixed.
func TestWriteFixes(t *testing.T) {
	for _, bits := range odd() {
		m := filled(t, 3)
		wantSteps(t, "Was", m, cells.Write(at(0), 0, 1, of(bits), 7), false, false, true)
		wantMem(t, "Was", m, []uint64{1, bitsOf(7), fixed(bits)}, false, 3)
		wantSteps(t, "Now", m, cells.Write(at(0), 0, 2, 7, of(bits)), false, false, true)
		wantMem(t, "Now", m, []uint64{2, fixed(bits), bitsOf(7)}, false, 6)
	}
}

// P11.5: a version is stored as it is, though its bits be a NaN's.
func TestVersionsAreNoNumbers(t *testing.T) {
	for _, bits := range odd() {
		m := filled(t, 3)
		wantSteps(t, "a write", m, cells.Write(at(0), 0, bits, 5, 7), false, false, true)
		wantMem(t, "a write", m, []uint64{bits, bitsOf(7), bitsOf(5)}, false, 3)
		r := cells.Read(at(0), 0, bits)
		wantSteps(t, "a read", m, r, false, false, true)
		wantRead(t, "a read", r, bitsOf(7), 3, false)
	}
	m := holding(t, nans[0], bitsOf(7), bitsOf(5))
	r := cells.Read(at(0), 0, math.MaxUint64)
	wantSteps(t, "two NaNs", m, r, false, false)
	m.Poke(0, nans[1])
	wantSteps(t, "two NaNs", m, r, false, true)
	wantRead(t, "two NaNs", r, bitsOf(5), 4, true)
}

// P11.5, P11.7: each step with no access open fails, changes nothing, and is tried again.
func TestWriteWithNoneOpen(t *testing.T) {
	m := holding(t, 90, 91, 92)
	w := cells.Write(at(0), 0, 3, 5, 7)
	for i := range 3 {
		for range 3 {
			wantNoStep(t, fmt.Sprint("step ", i, ", none open"), m, w, api.ErrSpent)
		}
		wantSteps(t, fmt.Sprint("step ", i), m, w, i == 2)
	}
	wantMem(t, "at its end", m, []uint64{3, bitsOf(7), bitsOf(5)}, false, 3)
}

// P11.5: a step looks at its own word alone; where that is not there, ErrPlace, be it open or not, and the step is tried again.
func TestWriteOfACellThatIsNotAllThere(t *testing.T) {
	w := cells.Write(at(2), 0, 3, 5, 7)
	for i, need := range []int{3, 1, 2} {
		for there := range need {
			short := filled(t, 2+there)
			wantNoStep(t, fmt.Sprint("step ", i, " of ", there, " words, not open"), short, w, api.ErrPlace)
			short.Open()
			wantNoStep(t, fmt.Sprint("step ", i, " of ", there, " words"), short, w, api.ErrPlace)
		}
		just := filled(t, 2+need)
		want := just.All()
		want[2+[]int{2, 0, 1}[i]] = []uint64{bitsOf(5), 3, bitsOf(7)}[i]
		wantNoStep(t, "just enough, not open", just, w, api.ErrSpent)
		wantSteps(t, fmt.Sprint("step ", i, " of ", need, " words"), just, w, i == 2)
		wantMem(t, fmt.Sprint("step ", i, " of ", need, " words"), just, want, false, 1)
	}
}

// P11.4, R5: a clone of each step, and what it was made of, go their own ways.
func TestCloneOfARead(t *testing.T) {
	for _, one := range readings {
		for _, other := range readings {
			cloneOfARead(t, one.words, other.words, func(r *cells.Reading, name string) {
				wantRead(t, one.name+name, r, one.value, len(one.words), one.torn)
			}, func(r *cells.Reading, name string) {
				wantRead(t, other.name+name, r, other.value, len(other.words), other.torn)
			})
		}
	}
}

// cloneOfARead clones where the words that the two were told part, and lets each go on by its own; then the other one first.
func cloneOfARead(t *testing.T, one, other [][]uint64, wantOne, wantOther func(*cells.Reading, string)) {
	t.Helper()
	alike := 0
	for alike < min(len(one), len(other)) && slices.Equal(one[alike], other[alike]) {
		alike++
	}
	goOn := func(r *cells.Reading, words [][]uint64, from int) {
		for i := from; i < len(words); i++ {
			wantSteps(t, "a clone's steps", holding(t, words[i]...), r, i == len(words)-1)
		}
	}
	for from := range alike + 1 {
		for _, first := range []bool{false, true} {
			r := cells.Read(at(0), 0, 5)
			for i := range from {
				wantSteps(t, "ahead of the clone", holding(t, one[i]...), r, i == len(one)-1)
			}
			c := r.Clone()
			if first {
				goOn(r, one, from)
				goOn(c, other, from)
			} else {
				goOn(c, other, from)
				goOn(r, one, from)
			}
			wantOne(r, ", what was cloned")
			wantOther(c, ", the clone")
		}
	}
}

// P11.5, R5: likewise of a write: each does all that is left of it.
func TestCloneOfAWrite(t *testing.T) {
	for from := range 4 {
		w, m := cells.Write(at(0), 0, 3, 5, 7), holding(t, 90, 91, 92)
		for i := range from {
			wantSteps(t, "ahead of the clone", m, w, i == 2)
		}
		c, other := w.Clone(), m.Clone()
		for i := from; i < 3; i++ {
			wantSteps(t, "what was cloned", m, w, i == 2)
		}
		for i := from; i < 3; i++ {
			wantSteps(t, "the clone", other, c, i == 2)
		}
		for _, one := range []*mem.Mem{m, other} {
			wantMem(t, "at the end", one, []uint64{3, bitsOf(7), bitsOf(5)}, false, 3)
		}
		wantNoStep(t, "what was cloned", m, w, api.ErrState)
		wantNoStep(t, "the clone", other, c, api.ErrState)
	}
}

// R5: two reads, and two writes, made alike are not one.
func TestAlikeAreTwo(t *testing.T) {
	m := holding(t, 0, bitsOf(5), 0)
	a, b := cells.Read(at(0), 0, 0), cells.Read(at(0), 0, 0)
	wantSteps(t, "a read", m, a, false, false, true)
	wantRead(t, "the other", b, 0, 0, false)
	wantSteps(t, "the other", m, b, false, false, true)
	v, w := cells.Write(at(0), 0, 1, 2, 3), cells.Write(at(0), 0, 1, 2, 3)
	wantSteps(t, "a write", m, v, false, false, true)
	wantSteps(t, "the other", m, w, false, false, true)
}
