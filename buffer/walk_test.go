package buffer_test

import (
	"fmt"
	"math"
	"slices"
	"testing"

	"beadle/api"
	"beadle/buffer"
)

// model is a buffer told by its past: all that was taken since it was made, or cleared.
type model struct {
	most int
	past []put
}

// first tells whether a cell was not written in what is past.
func first(past []put, cell int) bool {
	return !slices.ContainsFunc(past, func(p put) bool { return p.cell == cell })
}

// all is each cell at its first write with what its last one laid.
func (m model) all() []put {
	var puts []put
	for i, p := range m.past {
		if !first(m.past[:i], p.cell) {
			continue
		}
		for _, later := range m.past[i:] {
			if later.cell == p.cell {
				p.bits = right(later.bits)
			}
		}
		puts = append(puts, p)
	}
	return puts
}

// put is the model behind one write more, and what that answers.
func (m model) put(p put) (model, bool, api.Errno) {
	is := first(m.past, p.cell)
	if is && len(m.all()) >= m.most {
		return m, false, api.ErrTooManyWrites
	}
	return model{m.most, slices.Concat(m.past, []put{p})}, is, api.OK
}

// rule is a row of numbers that looks as if thrown.
type rule uint64

func (r *rule) below(n int) int {
	*r = *r*6364136223846793005 + 1442695040888963407
	return int(uint64(*r>>33) % uint64(n))
}

func (r *rule) number() uint64 {
	all := slices.Concat(nans, plain, plain)
	return all[r.below(len(all))]
}

// cell is mostly one of few, so that it was often written before.
func (r *rule) cell(few int) int {
	if r.below(6) == 0 {
		return odd[r.below(len(odd))]
	}
	return r.below(few) - few/2
}

type fork struct {
	b *buffer.Buffer
	m model
}

// P7.1 to P7.5: a buffer and its model go by the same long row of calls. Clones stay behind, and are as they were at the end.
func TestLongRows(t *testing.T) {
	r := rule(7)
	for _, most := range []int{1, 2, 3, 4, 8, 31, 32} {
		for range 15 {
			walk(t, &r, most)
		}
	}
}

func walk(t *testing.T, r *rule, most int) {
	t.Helper()
	b, m := made(t, most), model{most: most}
	var forks []fork
	for i := range 100 {
		what := fmt.Sprint("bound ", most, ", call ", i)
		switch r.below(12) {
		case 0:
			forks = append(forks, fork{b, m})
			b = b.Clone()
		case 1:
			forks = append(forks, fork{b.Clone(), m})
		case 2:
			if r.below(2) == 0 {
				b.Clear()
				m = model{most: most}
			}
		default:
			p := put{r.cell(most + 2), r.number()}
			after, is, e := m.put(p)
			wantPut(t, what, b, p, is, e)
			m = after
		}
		wantLike(t, what, b, m.all()...)
	}
	for _, f := range append(forks, fork{b, m}) {
		wantLike(t, "a fork", f.b, f.m.all()...)
		wantOnward(t, f)
	}
}

// wantOnward: a fork takes what it should, and goes by its own past alone.
func wantOnward(t *testing.T, f fork) {
	t.Helper()
	for _, p := range []put{{1, 5}, {-70, minus0}, {70, 0xfff0000000000001}} {
		after, is, e := f.m.put(p)
		wantPut(t, "a fork", f.b, p, is, e)
		f.m = after
		wantLike(t, "a fork onward", f.b, f.m.all()...)
	}
}

// P7.2 to P7.5: every row of at most 5 calls over three cells, Clear among them, at each bound from 1 to 3.
func TestEveryShortRow(t *testing.T) {
	cells := []int{1, 0, -1}
	kinds := len(cells) + 1
	for most := 1; most <= 3; most++ {
		for long, count := 0, 1; long <= 5; long, count = long+1, count*kinds {
			for n := range count {
				b, m := made(t, most), model{most: most}
				what := fmt.Sprint("bound ", most, ", row ", n, " of ", long)
				for i := range long {
					if n%kinds == len(cells) {
						b.Clear()
						m = model{most: most}
					} else {
						p := put{cells[n%kinds], math.Float64bits(float64(i))}
						after, is, e := m.put(p)
						wantPut(t, what, b, p, is, e)
						m = after
					}
					n /= kinds
				}
				wantLike(t, what, b, m.all()...)
			}
		}
	}
}
