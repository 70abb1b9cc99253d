package state_test

import (
	"fmt"
	"math"
	"slices"
	"testing"

	"beadle/api"
	"beadle/state"
)

const oneNaN = 0x7ff8000000000000

var (
	minus0 = math.Copysign(0, -1)
	theNaN = math.Float64frombits(oneNaN)
)

// nans are NaNs of many bits: quiet, signalling, of both signs, at the edges of what is one.
var nans = []uint64{
	0x7ff0000000000001, 0x7ff7ffffffffffff, 0x7ff8000000000000, 0x7ff8000000000001, 0x7fffffffffffffff,
	0xfff0000000000001, 0xfff7ffffffffffff, 0xfff8000000000000, 0xfff8000000000001, 0xffffffffffffffff,
}

// plain are bits that no fixing may touch: the noughts, the infinities and what stands beside them, ordinary numbers.
var plain = []uint64{
	0x0000000000000000, 0x8000000000000000, 0x0000000000000001, 0x8000000000000001,
	0x000fffffffffffff, 0x0010000000000000, 0x7fefffffffffffff, 0xffefffffffffffff,
	0x7ff0000000000000, 0xfff0000000000000, 0x3ff0000000000000, 0xbff0000000000000, 0x4008000000000000, 0x400921fb54442d18,
}

// none are cells that a state of n cells has not.
func none(n int) []int {
	return []int{math.MinInt, -1 << 32, -n, -1, n, n + 1, 256, 257, 1 << 32, 1 << 62, math.MaxInt}
}

// right are the bits that a number's bits are fixed to.
func right(bits uint64) uint64 {
	if bits<<1 > 0x7ff0000000000000<<1 {
		return oneNaN
	}
	return bits
}

func numbers(bits ...uint64) []float64 {
	l := make([]float64, len(bits))
	for i, b := range bits {
		l[i] = math.Float64frombits(b)
	}
	return l
}

func bitsOf(l []float64) []uint64 {
	bits := make([]uint64, len(l))
	for i, x := range l {
		bits[i] = math.Float64bits(x)
	}
	return bits
}

func want(t *testing.T, what string, got, right api.Errno) {
	t.Helper()
	if got != right {
		t.Errorf("%s = %d, want %d", what, got, right)
	}
}

// wantTold makes sure of a number bit by bit, and of the error with it.
func wantTold(t *testing.T, what string, x float64, e api.Errno, right uint64, rightE api.Errno) {
	t.Helper()
	if math.Float64bits(x) != right || e != rightE {
		t.Errorf("%s = %x, %d, want %x, %d", what, math.Float64bits(x), e, right, rightE)
	}
}

// wantLike holds all that can be asked of a state without a change against the bits that it should hold.
func wantLike(t *testing.T, what string, s *state.State, bits ...uint64) {
	t.Helper()
	if all := bitsOf(s.All()); !slices.Equal(all, bits) {
		t.Errorf("%s: All = %x, want %x", what, all, bits)
	}
	if s.Len() != len(bits) {
		t.Errorf("%s: Len = %d, want %d", what, s.Len(), len(bits))
	}
	for cell, b := range bits {
		x, e := s.Get(cell)
		wantTold(t, fmt.Sprint(what, ": Get ", cell), x, e, b, api.OK)
	}
	for _, cell := range none(len(bits)) {
		if cell >= 0 && cell < len(bits) {
			continue
		}
		x, e := s.Get(cell)
		wantTold(t, fmt.Sprint(what, ": Get ", cell), x, e, 0, api.ErrCell)
	}
}

func made(t *testing.T, bits ...uint64) *state.State {
	t.Helper()
	s, e := state.Of(numbers(bits...))
	if s == nil || e != api.OK {
		t.Fatalf("Of %x = %v, %d", bits, s, e)
	}
	return s
}

func blank(t *testing.T, cells int) *state.State {
	t.Helper()
	s, e := state.New(cells)
	if s == nil || e != api.OK {
		t.Fatalf("New of %d = %v, %d", cells, s, e)
	}
	return s
}

// P6.1: every number of cells that may be, all +0.
func TestNewOfEachLength(t *testing.T) {
	for cells := 1; cells <= 256; cells++ {
		wantLike(t, fmt.Sprint("New of ", cells), blank(t, cells), make([]uint64, cells)...)
	}
}

// P6.1: what may not be.
func TestNewRefused(t *testing.T) {
	for _, cells := range []int{math.MinInt, -1 << 32, -256, -1, 0, 257, 258, 512, 1 << 31, 1 << 32, 1<<32 + 1, 1 << 62, math.MaxInt} {
		if s, e := state.New(cells); s != nil || e != api.ErrArg {
			t.Errorf("New of %d = %v, %d", cells, s, e)
		}
	}
}

// P6.1: every length that may be, each cell with its own number.
func TestOfEachLength(t *testing.T) {
	for cells := 1; cells <= 256; cells++ {
		bits := make([]uint64, cells)
		for i := range bits {
			bits[i] = math.Float64bits(float64(i)*1.25 - 7)
		}
		wantLike(t, fmt.Sprint("Of ", cells), made(t, bits...), bits...)
	}
}

// P6.1: how long the list is counts, not its spare room.
func TestOfRefused(t *testing.T) {
	for _, l := range [][]float64{nil, {}, make([]float64, 0, 5), make([]float64, 257), make([]float64, 258), make([]float64, 512), make([]float64, 1<<16+1)} {
		if s, e := state.Of(l); s != nil || e != api.ErrArg {
			t.Errorf("Of %d numbers = %v, %d", len(l), s, e)
		}
	}
	s, e := state.Of(make([]float64, 256, 600))
	want(t, "Of 256 with spare room", e, api.OK)
	wantLike(t, "Of 256 with spare room", s, make([]uint64, 256)...)
}

// P6.1, P6.2, P6.3, R6: a number comes in by four ways, and each fixes it; what is no NaN keeps its bits.
func TestNumbersAreFixed(t *testing.T) {
	for _, bits := range slices.Concat(nans, plain) {
		x, fixed := math.Float64frombits(bits), right(bits)
		wantLike(t, fmt.Sprintf("Of %x", bits), made(t, 1, bits, bits, 2), 1, fixed, fixed, 2)
		s := made(t, 3, 4, 5)
		want(t, "Set", s.Set(1, x), api.OK)
		wantLike(t, fmt.Sprintf("Set of %x", bits), s, 3, fixed, 5)
		want(t, "Apply", s.Apply([]api.Touch{{Cell: 2, X: x}, {Cell: 0, X: x}}), api.OK)
		wantLike(t, fmt.Sprintf("Apply of %x", bits), s, fixed, fixed, fixed)
		wantLike(t, fmt.Sprintf("clone of %x", bits), s.Clone(), fixed, fixed, fixed)
	}
}

// P6.2, P6.5: Set of each cell, from the first to the last, changes no other one.
func TestSetOfEachCell(t *testing.T) {
	for _, cells := range []int{1, 2, 3, 9, 255, 256} {
		bits := make([]uint64, cells)
		for i := range bits {
			bits[i] = math.Float64bits(float64(-1 - i))
		}
		s := made(t, bits...)
		for cell := range cells {
			bits[cell] = math.Float64bits(float64(cell) + 0.5)
			want(t, "Set", s.Set(cell, float64(cell)+0.5), api.OK)
			wantLike(t, fmt.Sprint("Set of ", cell), s, bits...)
		}
	}
}

// P6.2: a cell that there is not is told nothing of, and laid nothing in.
func TestNoSuchCell(t *testing.T) {
	for _, cells := range []int{1, 2, 255, 256} {
		bits := make([]uint64, cells)
		for i := range bits {
			bits[i] = math.Float64bits(float64(i) + 3)
		}
		s := made(t, bits...)
		for _, cell := range none(cells) {
			if cell >= 0 && cell < cells {
				continue
			}
			x, e := s.Get(cell)
			wantTold(t, fmt.Sprint("Get ", cell), x, e, 0, api.ErrCell)
			want(t, fmt.Sprint("Set ", cell), s.Set(cell, 9), api.ErrCell)
			want(t, fmt.Sprint("Set ", cell), s.Set(cell, math.NaN()), api.ErrCell)
			want(t, fmt.Sprint("Apply ", cell), s.Apply([]api.Touch{{Cell: cell, X: 9}}), api.ErrCell)
		}
		wantLike(t, "behind what was refused", s, bits...)
	}
}

// P6.3: wherever in the list the cell stands that is none, nothing has changed.
func TestApplyRefused(t *testing.T) {
	for _, wrong := range none(3) {
		for at := range 4 {
			l := []api.Touch{{Cell: 0, X: 5}, {Cell: 1, X: 6}, {Cell: 2, X: 7}}
			l = slices.Insert(l, at, api.Touch{Cell: wrong, X: 8})
			s := made(t, 1, 2, 3)
			want(t, fmt.Sprint("Apply of ", l), s.Apply(l), api.ErrCell)
			wantLike(t, fmt.Sprint("behind Apply of ", l), s, 1, 2, 3)
		}
	}
	s := made(t, 1)
	want(t, "Apply of two that are none", s.Apply([]api.Touch{{Cell: -1, X: 4}, {Cell: 1, X: 4}}), api.ErrCell)
	wantLike(t, "behind it", s, 1)
}

// P6.3: nothing is laid by nothing.
func TestApplyOfNothing(t *testing.T) {
	for _, l := range [][]api.Touch{nil, {}, make([]api.Touch, 0, 4)} {
		s := made(t, 1, oneNaN, 1<<63)
		want(t, "Apply of nothing", s.Apply(l), api.OK)
		wantLike(t, "behind it", s, 1, oneNaN, 1<<63)
	}
}

// P6.3: of several for one cell the last one holds; so does a list that is longer than there are cells.
func TestApplyInOrder(t *testing.T) {
	s := made(t, 1, 2, 3)
	want(t, "Apply", s.Apply([]api.Touch{{Cell: 2, X: 7}, {Cell: 0, X: 5}, {Cell: 2, X: minus0}, {Cell: 0, X: math.Inf(-1)}, {Cell: 2, X: 0}}), api.OK)
	wantLike(t, "Apply", s, 0xfff0000000000000, 2, 0)
	want(t, "Apply", s.Apply([]api.Touch{{Cell: 1, X: math.NaN()}, {Cell: 1, X: minus0}}), api.OK)
	wantLike(t, "Apply", s, 0xfff0000000000000, 1<<63, 0)
	many := blank(t, 256)
	var l []api.Touch
	bits := make([]uint64, 256)
	for i := range 3000 {
		cell := i * 97 % 251
		l = append(l, api.Touch{Cell: cell, X: float64(i)})
		bits[cell] = math.Float64bits(float64(i))
	}
	want(t, "Apply of 3000", many.Apply(l), api.OK)
	wantLike(t, "Apply of 3000", many, bits...)
}

// P6.4: Same of each pair of single numbers is whether the bits are the same once they are fixed.
func TestSameOfEachPair(t *testing.T) {
	all := slices.Concat(nans, plain)
	for _, a := range all {
		for _, b := range all {
			for _, at := range []int{0, 1, 2} {
				l, m := []uint64{4, 4, 4}, []uint64{4, 4, 4}
				l[at], m[at] = a, b
				if got := made(t, l...).Same(made(t, m...)); got != (right(a) == right(b)) {
					t.Errorf("Same of %x and %x = %t", l, m, got)
				}
			}
		}
	}
}

// P6.4: states with unlike many cells are not the same, though the one begins as the other.
func TestSameOfUnlikeLengths(t *testing.T) {
	for _, a := range []int{1, 2, 3, 255, 256} {
		for _, b := range []int{1, 2, 3, 255, 256} {
			if got := blank(t, a).Same(blank(t, b)); got != (a == b) {
				t.Errorf("Same of %d and %d cells = %t", a, b, got)
			}
		}
	}
	if made(t, 5, 6).Same(made(t, 5, 6, 0)) || made(t, 5, 6, 0).Same(made(t, 5, 6)) {
		t.Error("Same of a state and its beginning")
	}
}

// P6.4, R5: Same changes nothing, and a state is the same as itself, with NaN too.
func TestSameAsItself(t *testing.T) {
	s := made(t, oneNaN, 1<<63, 0)
	for range 2 {
		if !s.Same(s) || !s.Same(s.Clone()) || !s.Clone().Same(s) {
			t.Error("a state is not the same as itself")
		}
	}
	wantLike(t, "behind Same", s, oneNaN, 1<<63, 0)
}

// spoil overwrites a list and its spare room.
func spoil[T any](list []T, x T) {
	list = list[:cap(list)]
	for i := range list {
		list[i] = x
	}
}

// P6.1, R4: Of neither changes nor keeps its list, nor the spare room behind it.
func TestOfLeavesItsList(t *testing.T) {
	bits := []uint64{1, 1 << 63, 0xfff0000000000001, 7, 0x7ff8000000000001, 9}
	whole := numbers(bits...)
	s, e := state.Of(whole[:3])
	want(t, "Of", e, api.OK)
	want(t, "Set", s.Set(0, 8), api.OK)
	want(t, "Apply", s.Apply([]api.Touch{{Cell: 1, X: 8}, {Cell: 2, X: 8}}), api.OK)
	if !slices.Equal(bitsOf(whole), bits) {
		t.Errorf("Of's list is %x", bitsOf(whole))
	}
	s, e = state.Of(whole[:3])
	want(t, "Of", e, api.OK)
	spoil(whole[:3], 4)
	wantLike(t, "the list spoiled", s, 1, 1<<63, oneNaN)
}

// P6.3, R4: Apply neither changes nor keeps its list, nor the spare room behind it.
func TestApplyLeavesItsList(t *testing.T) {
	whole := []api.Touch{{Cell: 0, X: math.Float64frombits(0xfff0000000000001)}, {Cell: 1, X: minus0}, {Cell: 0, X: 3}, {Cell: -5, X: math.Float64frombits(0x7ff0000000000001)}, {Cell: 0, X: 9}}
	before := slices.Clone(whole)
	unchanged := func(what string) {
		t.Helper()
		for i, touch := range whole {
			if touch.Cell != before[i].Cell || math.Float64bits(touch.X) != math.Float64bits(before[i].X) {
				t.Errorf("%s: the list's place %d is %v", what, i, touch)
			}
		}
	}
	s := made(t, 1, 2)
	want(t, "Apply", s.Apply(whole[:2]), api.OK)
	unchanged("laid")
	want(t, "Apply", s.Apply(whole), api.ErrCell)
	unchanged("refused")
	wantLike(t, "behind both", s, oneNaN, 1<<63)
	want(t, "Set", s.Set(0, 6), api.OK)
	unchanged("behind Set")
	spoil(whole[:2], api.Touch{Cell: 1, X: 12})
	wantLike(t, "the list spoiled", s, math.Float64bits(6), 1<<63)
}

// P6.4, R4: All is the caller's own, spare room too, and one answer is not another.
func TestAllIsTheCallers(t *testing.T) {
	s := made(t, 1, 2, 3)
	first, second, third := s.All(), s.All(), s.All()
	first = append(first[:1], 9, 9, 9, 9)
	spoil(first, 9)
	wantLike(t, "All changed", s, 1, 2, 3)
	spoil(second, 8)
	wantLike(t, "All changed", s, 1, 2, 3)
	want(t, "Set", s.Set(1, 7), api.OK)
	if !slices.Equal(bitsOf(third), []uint64{1, 2, 3}) {
		t.Errorf("All changed with another answer, or with the state: %x", bitsOf(third))
	}
	spoil(blank(t, 3).All(), 6)
	wantLike(t, "another state", blank(t, 3), 0, 0, 0)
}

// P6.4, R5: neither sees what is done to the other, by Set or by Apply, nor by what All told.
func TestClone(t *testing.T) {
	for _, cells := range []int{1, 2, 5, 256} {
		bits := make([]uint64, cells)
		for i := range bits {
			bits[i] = uint64(i) << 52
		}
		s := made(t, bits...)
		c := s.Clone()
		if c == s || !c.Same(s) || !s.Same(c) {
			t.Fatal("Clone is not another one of the same")
		}
		wantLike(t, "the clone", c, bits...)
		last := cells - 1
		want(t, "Set", s.Set(last, -1), api.OK)
		wantLike(t, "the clone behind the other's Set", c, bits...)
		want(t, "Apply", c.Apply([]api.Touch{{Cell: last, X: -2}}), api.OK)
		spoil(c.All(), -3)
		x, e := s.Get(last)
		wantTold(t, "the one", x, e, math.Float64bits(-1), api.OK)
		x, e = c.Get(last)
		wantTold(t, "the clone", x, e, math.Float64bits(-2), api.OK)
		if s.Same(c) || c.Same(s) {
			t.Error("Same behind unlike changes")
		}
	}
}

// R5: a state does not see what is done to another of the same making.
func TestTwoOfOneMaking(t *testing.T) {
	a, b := blank(t, 2), blank(t, 2)
	want(t, "Set", a.Set(0, 4), api.OK)
	wantLike(t, "the other one", b, 0, 0)
	wantLike(t, "a third one", blank(t, 2), 0, 0)
	l := numbers(5, 6)
	c, _ := state.Of(l)
	d, _ := state.Of(l)
	want(t, "Set", c.Set(1, 4), api.OK)
	wantLike(t, "the other one", d, 5, 6)
}

// The examples of the chapter.
func TestExamples(t *testing.T) {
	s, e := state.Of([]float64{1, minus0, math.Float64frombits(0xffffffffffffffff)})
	want(t, "Of", e, api.OK)
	x, e := s.Get(1)
	wantTold(t, "Get 1", x, e, 1<<63, api.OK)
	x, e = s.Get(2)
	wantTold(t, "Get 2", x, e, math.Float64bits(theNaN), api.OK)
	for _, cell := range []int{3, -1} {
		x, e = s.Get(cell)
		wantTold(t, "Get", x, e, 0, api.ErrCell)
	}
	want(t, "Apply", s.Apply([]api.Touch{{Cell: 0, X: 5}, {Cell: 3, X: 1}}), api.ErrCell)
	x, e = s.Get(0)
	wantTold(t, "Get 0", x, e, math.Float64bits(1), api.OK)
	want(t, "Apply", s.Apply([]api.Touch{{Cell: 0, X: 5}, {Cell: 0, X: 6}}), api.OK)
	x, e = s.Get(0)
	wantTold(t, "Get 0", x, e, math.Float64bits(6), api.OK)
	_, zero := state.New(0)
	_, beyond := state.New(257)
	_, nothing := state.Of([]float64{})
	for _, e := range []api.Errno{zero, beyond, nothing} {
		want(t, "what may not be", e, api.ErrArg)
	}
	one := blank(t, 1)
	if one.Same(made(t, 1<<63)) || !one.Same(made(t, 0)) || one.Same(blank(t, 2)) {
		t.Error("Same of the examples")
	}
}
