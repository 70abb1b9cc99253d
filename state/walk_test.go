package state_test

import (
	"fmt"
	"math"
	"slices"
	"testing"

	"beadle/api"
	"beadle/state"
)

// model is a state told by its past: what was ever laid, the last one for a cell holds.
type model struct {
	cells int
	laid  []laid
}

type laid struct {
	cell int
	bits uint64
}

func (m model) has(cell int) bool { return cell >= 0 && cell < m.cells }

// lay is the model behind some more, if all the cells are there.
func (m model) lay(more ...laid) (model, api.Errno) {
	for _, l := range more {
		if !m.has(l.cell) {
			return m, api.ErrCell
		}
	}
	return model{m.cells, slices.Concat(m.laid, more)}, api.OK
}

func (m model) bits() []uint64 {
	all := make([]uint64, m.cells)
	for cell := range all {
		for _, l := range m.laid {
			if l.cell == cell {
				all[cell] = right(l.bits)
			}
		}
	}
	return all
}

// rule is a row of numbers that looks as if thrown.
type rule uint64

func (r *rule) below(n int) int {
	*r = *r*6364136223846793005 + 1442695040888963407
	return int(uint64(*r>>33) % uint64(n))
}

func (r *rule) number() uint64 {
	all := slices.Concat(nans, plain, plain)
	return all[r.below(len(all))]
}

// cell is mostly one that there is.
func (r *rule) cell(cells int) int {
	if r.below(8) == 0 {
		wrong := none(cells)
		return wrong[r.below(len(wrong))]
	}
	return r.below(cells)
}

func (r *rule) row(cells int) ([]api.Touch, []laid) {
	var touches []api.Touch
	var more []laid
	for range r.below(5) {
		l := laid{r.cell(cells), r.number()}
		more = append(more, l)
		touches = append(touches, api.Touch{Cell: l.cell, X: math.Float64frombits(l.bits)})
	}
	return touches, more
}

// P6.1 to P6.5: a state and its model go by the same long row of calls. Clones stay behind, and are as they were at the end.
func TestLongRows(t *testing.T) {
	r := rule(1)
	for _, cells := range []int{1, 2, 3, 4, 7, 16} {
		for range 20 {
			walk(t, &r, cells)
		}
	}
}

type fork struct {
	s *state.State
	m model
}

func walk(t *testing.T, r *rule, cells int) {
	t.Helper()
	s, m := blank(t, cells), model{cells: cells}
	var forks []fork
	for i := range 60 {
		what := fmt.Sprint(cells, " cells, call ", i)
		var e api.Errno
		switch r.below(6) {
		case 0, 1:
			cell, bits := r.cell(cells), r.number()
			got := s.Set(cell, math.Float64frombits(bits))
			m, e = m.lay(laid{cell, bits})
			want(t, what+": Set", got, e)
			if got == api.OK {
				x, e := s.Get(cell)
				wantTold(t, what+": Get behind Set", x, e, right(bits), api.OK)
			}
		case 2, 3:
			touches, more := r.row(cells)
			got := s.Apply(touches)
			m, e = m.lay(more...)
			want(t, what+": Apply", got, e)
		case 4:
			forks = append(forks, fork{s, m})
			s = s.Clone()
		case 5:
			forks = append(forks, fork{s, m})
			again, e := state.Of(s.All())
			want(t, what+": Of All", e, api.OK)
			if !again.Same(s) || !s.Same(again) {
				t.Errorf("%s: Of All is not the same", what)
			}
			s = again
		}
		wantLike(t, what, s, m.bits()...)
	}
	wantForks(t, append(forks, fork{s, m}))
}

// wantForks: each is as it was, and two of them are the same just if all that they hold is.
func wantForks(t *testing.T, forks []fork) {
	t.Helper()
	for _, f := range forks {
		wantLike(t, "a fork", f.s, f.m.bits()...)
		for _, g := range forks {
			if got := f.s.Same(g.s); got != slices.Equal(f.m.bits(), g.m.bits()) {
				t.Errorf("Same of %x and %x = %t", f.m.bits(), g.m.bits(), got)
			}
		}
	}
}

// P6.3, P6.5: every list of at most 4 over two cells and two that are none, each with one of two numbers.
func TestEveryShortApply(t *testing.T) {
	cells := []int{0, 1, 2, -1}
	kinds := len(cells) * 2
	for long, count := 0, 1; long <= 4; long, count = long+1, count*kinds {
		for n := range count {
			var touches []api.Touch
			var more []laid
			for range long {
				l := laid{cells[n%4], uint64(n/4%2) << 63}
				n /= kinds
				more = append(more, l)
				touches = append(touches, api.Touch{Cell: l.cell, X: math.Float64frombits(l.bits)})
			}
			s := made(t, 7, 8)
			m, e := model{2, []laid{{0, 7}, {1, 8}}}.lay(more...)
			want(t, fmt.Sprint("Apply of ", touches), s.Apply(touches), e)
			wantLike(t, fmt.Sprint("behind Apply of ", touches), s, m.bits()...)
		}
	}
}
