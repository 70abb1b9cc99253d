package deque_test

import (
	"math"
	"slices"
	"testing"

	"beadle/alone"
	"beadle/api"
	"beadle/deque"
	"beadle/number"
	"beadle/state"
)

// The one NaN, and what has a sign to be told by.
var (
	nan   = number.Of(0x7ff8000000000000)
	less0 = math.Copysign(0, -1)
	inf   = math.Inf(1)
)

// kinds are numbers of every kind.
var kinds = []float64{
	-inf, -math.MaxFloat64, -1e9, -2, -1.5, -1, -0.25, -math.SmallestNonzeroFloat64,
	less0, 0, math.SmallestNonzeroFloat64, 0.25, 1, 2, 65536, 1 << 53, math.MaxFloat64, inf, nan,
}

// noIndex are numbers that are the index of nothing, however many things there are.
var noIndex = []float64{
	-inf, -math.MaxFloat64, -1 << 53, -1 << 32, -17, -16, -2, -1, math.Nextafter(-1, 0), -0.5, -math.SmallestNonzeroFloat64,
	math.SmallestNonzeroFloat64, 0.5, math.Nextafter(1, 0), math.Nextafter(1, 2), 1.5, 14.5, 15.5, math.Nextafter(15, 16), math.Nextafter(16, 15), 16, 17, 18, 32, 34, 255, 256,
	1 << 31, 1<<32 - 1, 1 << 32, 1<<32 + 1, 1<<53 - 1, 1 << 53, 1<<53 + 2, 1 << 63, 1 << 64, math.MaxFloat64, inf, nan,
}

func same(a, b float64) bool {
	return math.Float64bits(a) == math.Float64bits(b) || a != a && b != b
}

// sameAll goes by the bits alone: what is emitted is fixed.
func sameAll(a, b []float64) bool {
	return slices.EqualFunc(a, b, func(x, y float64) bool { return math.Float64bits(x) == math.Float64bits(y) })
}

func fixed(x float64) float64 {
	if x != x {
		return nan
	}
	return x
}

// rule is a row of numbers that looks as if thrown.
type rule uint64

func (r *rule) below(n int) int {
	*r = *r*6364136223846793005 + 1442695040888963407
	return int(uint64(*r>>33) % uint64(n))
}

func (r *rule) of(xs []float64) float64 { return xs[r.below(len(xs))] }

var (
	committed = api.End{How: api.Committed}
	isFull    = api.End{How: api.Aborted, Code: 1}
)

// The programs, in the order of named.
const (
	pushFront = iota
	pushBack
	popFront
	popBack
	at
	howMany
	all
)

// named is a program of a deque with what it is called, and the tag that it must have.
type named struct {
	name string
	p    api.Program
	tag  int
}

func programsOf(d deque.Deque) []named {
	return []named{
		{"PushFront", d.PushFront, api.Updates}, {"PushBack", d.PushBack, api.Updates},
		{"PopFront", d.PopFront, api.Updates}, {"PopBack", d.PopBack, api.Updates},
		{"At", d.At, api.Reads}, {"Len", d.Len, api.Reads}, {"All", d.All, api.Reads},
	}
}

// model is the row of a deque, by the chapter's words.
type model struct {
	room int
	row  []float64
}

// call is how a program ends, and what it emits.
func (m *model) call(which int, args ...float64) (api.End, []float64) {
	x := 0.0
	if len(args) > 0 {
		x = fixed(args[0])
	}
	switch which {
	case pushFront, pushBack:
		return m.push(which == pushFront, x)
	case popFront, popBack:
		return committed, m.pop(which == popFront)
	case at:
		for i, y := range m.row {
			if x == float64(i) {
				return committed, []float64{y}
			}
		}
		return committed, nil
	case howMany:
		return committed, []float64{float64(len(m.row))}
	}
	return committed, slices.Clone(m.row)
}

func (m *model) push(front bool, x float64) (api.End, []float64) {
	switch {
	case len(m.row) == m.room:
		return isFull, nil
	case front:
		m.row = slices.Concat([]float64{x}, m.row)
	default:
		m.row = slices.Concat(m.row, []float64{x})
	}
	return committed, []float64{float64(len(m.row))}
}

func (m *model) pop(front bool) []float64 {
	n := len(m.row)
	if n == 0 {
		return nil
	}
	out, left := m.row[n-1:], m.row[:n-1]
	if front {
		out, left = m.row[:1], m.row[1:]
	}
	m.row = slices.Clone(left)
	return slices.Clone(out)
}

// mustMake is Make where there must be a deque.
func mustMake(t *testing.T, base, cells int) deque.Deque {
	t.Helper()
	d, e := deque.Make(base, cells)
	if e != api.OK {
		t.Fatalf("Make(%d, %d) = %d, want OK", base, cells, e)
	}
	return d
}

// world is a deque over some cells beside what it should be; cells that are not the deque's hold numbers of their own.
type world struct {
	t           *testing.T
	c           api.Config
	s           *state.State
	programs    []named
	is          *model
	base, cells int
}

// inHand is what lies in a cell that is not the deque's: of all kinds, also such as would be places or counts.
func inHand(cell int) float64 {
	xs := []float64{nan, 1, -inf, 0.5, less0, 16, -1, 1e300, 3, inf, 2, 255}
	return xs[cell%len(xs)]
}

// worldOf is a deque in a memory of that many cells, its own +0.
func worldOf(t *testing.T, base, cells, memory int) *world {
	t.Helper()
	s, e := state.New(memory)
	if e != api.OK {
		t.Fatal(e)
	}
	c := api.Config{Cells: memory, Threads: 1, Fuel: api.MaxFuel, Writes: 8}
	w := &world{t, c, s, programsOf(mustMake(t, base, cells)), &model{room: min(16, cells-2)}, base, cells}
	for i := range memory {
		if !w.owns(i) {
			s.Set(i, inHand(i))
		}
	}
	return w
}

// small is a deque with room for so many numbers, with other cells ahead of it and behind it.
func small(t *testing.T, room int) *world {
	t.Helper()
	return worldOf(t, 3, room+2, room+9)
}

// of is a deque with room for so many numbers in which these are, the first of which stands where the first one of an empty row stands that was turned by so many: pushed behind and taken in front, or below 0 the other way round.
func of(t *testing.T, room, turned int, row ...float64) *world {
	t.Helper()
	w := small(t, room)
	w.turn(turned)
	for _, x := range row {
		w.do(pushBack, x)
	}
	return w
}

// turn lets a row go round its cells, so many times by one: what is taken in front is pushed behind, below 0 the other way round. Where there is no number, one is pushed ahead of that, and is gone behind it.
func (w *world) turn(by int) {
	w.t.Helper()
	in, out := pushBack, popFront
	if by < 0 {
		in, out, by = pushFront, popBack, -by
	}
	empty := len(w.is.row) == 0
	for range by {
		if empty {
			w.do(in, 7)
			w.do(out)
			continue
		}
		moved := w.is.row[0]
		if out == popBack {
			moved = w.is.row[len(w.is.row)-1]
		}
		w.do(out)
		w.do(in, moved)
	}
}

func (w *world) owns(cell int) bool { return cell >= w.base && cell < w.base+w.cells }

// run is what becomes of a call. Whatever it is: it stays within the deque's cells, the fuel and eight writes, only an updater writes, and what is no deque's cell is as it was.
func (w *world) run(which int, args ...float64) api.Result {
	w.t.Helper()
	n, was := w.programs[which], w.s.All()
	r, e := alone.Run(w.c, n.p, args, w.s)
	if e != api.OK {
		w.t.Fatalf("%s%v: %d", n.name, args, e)
	}
	if r.Fuel > 1024 || len(r.Writes) > 8 || n.p.Tag == api.Reads && len(r.Writes) > 0 {
		w.t.Errorf("%s%v: fuel %d, writes %v", n.name, args, r.Fuel, r.Writes)
	}
	for _, touch := range slices.Concat(r.Reads, r.Writes) {
		if !w.owns(touch.Cell) {
			w.t.Errorf("%s%v: touches the cell %d", n.name, args, touch.Cell)
		}
	}
	for i, x := range w.s.All() {
		if (!w.owns(i) || n.p.Tag == api.Reads || r.End.How != api.Committed) && !same(x, was[i]) {
			w.t.Errorf("%s%v: the cell %d is %v, was %v", n.name, args, i, x, was[i])
		}
	}
	return r
}

// want makes sure of what becomes of a call, told without the model.
func (w *world) want(which int, args []float64, end api.End, out ...float64) {
	w.t.Helper()
	r := w.run(which, args...)
	if r.End != end || !sameAll(r.Out, out) {
		w.t.Errorf("%s%v: %v, %v, want %v, %v", w.programs[which].name, args, r.End, r.Out, end, out)
	}
}

// do does a call, and makes sure that it goes as it should.
func (w *world) do(which int, args ...float64) {
	w.t.Helper()
	end, out := w.is.call(which, args...)
	w.want(which, args, end, out...)
}

// holds makes sure of all that may be asked of a deque with this row, told without the model.
func (w *world) holds(row ...float64) {
	w.t.Helper()
	n := len(row)
	w.want(all, nil, committed, row...)
	w.want(howMany, nil, committed, float64(n))
	for i, x := range row {
		w.want(at, []float64{float64(i)}, committed, x)
		w.want(at, []float64{float64(i) + 0.5}, committed)
		w.want(at, []float64{float64(-i) - 1}, committed)
	}
	for i := n; i <= w.is.room+2; i++ {
		w.want(at, []float64{float64(i)}, committed)
	}
	if n > 0 {
		w.want(at, []float64{less0}, committed, row[0])
	} else {
		w.want(at, []float64{less0}, committed)
	}
}

// look is holds of the row that there should be.
func (w *world) look() {
	w.t.Helper()
	w.holds(w.is.row...)
}
