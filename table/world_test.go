package table_test

import (
	"cmp"
	"math"
	"slices"
	"testing"

	"beadle/alone"
	"beadle/api"
	"beadle/number"
	"beadle/state"
	"beadle/table"
)

// The one NaN, and what has a sign to be told by.
var (
	nan   = number.Of(0x7ff8000000000000)
	less0 = math.Copysign(0, -1)
	inf   = math.Inf(1)
)

// kinds are numbers of every kind.
var kinds = []float64{
	-inf, -math.MaxFloat64, -1e9, -2, -1.5, -1, -0.25, -math.SmallestNonzeroFloat64,
	less0, 0, math.SmallestNonzeroFloat64, 0.25, 1, 2, 65536, 1 << 53, math.MaxFloat64, inf, nan,
}

// ofOneHash are so many numbers with the hash that this one has, itself among them: of each the upper half of the bits and the lower one differ in the same bits.
func ofOneHash(t *testing.T, x float64, many int) []float64 {
	t.Helper()
	bits := math.Float64bits(x)
	differ := uint32(bits>>32) ^ uint32(bits)
	want, _ := number.One(api.OneHash, x)
	all := []float64{x}
	for i := 1; i < many; i++ {
		upper := uint32(0x3fe00000 + i*0x00053001)
		if i%3 == 0 {
			upper |= 1 << 31
		}
		y := math.Float64frombits(uint64(upper)<<32 | uint64(upper^differ))
		if h, _ := number.One(api.OneHash, y); h != want || same(x, y) {
			t.Fatalf("%v has the hash %v, %v has %v", x, want, y, h)
		}
		all = append(all, y)
	}
	return all
}

func same(a, b float64) bool {
	return math.Float64bits(a) == math.Float64bits(b) || a != a && b != b
}

// sameAll goes by the bits alone: what is emitted is fixed.
func sameAll(a, b []float64) bool {
	return slices.EqualFunc(a, b, func(x, y float64) bool { return math.Float64bits(x) == math.Float64bits(y) })
}

// byKeys are pairs, which are keys and values by turns, in an order that hangs on the keys alone.
func byKeys(pairs []float64) []float64 {
	var rows [][]float64
	for i := 0; i+1 < len(pairs); i += 2 {
		rows = append(rows, pairs[i:i+2])
	}
	slices.SortStableFunc(rows, func(a, b []float64) int { return cmp.Compare(math.Float64bits(a[0]), math.Float64bits(b[0])) })
	return slices.Concat(rows...)
}

// rule is a row of numbers that looks as if thrown.
type rule uint64

func (r *rule) below(n int) int {
	*r = *r*6364136223846793005 + 1442695040888963407
	return int(uint64(*r>>33) % uint64(n))
}

func (r *rule) of(xs []float64) float64 { return xs[r.below(len(xs))] }

// mixed is 0 to n - 1 in some order.
func (r *rule) mixed(n int) []int {
	all := make([]int, n)
	for i := range all {
		at := r.below(i + 1)
		all[i] = all[at]
		all[at] = i
	}
	return all
}

var (
	committed = api.End{How: api.Committed}
	isFull    = api.End{How: api.Aborted, Code: 1}
)

// model is the pairs of a table, by the chapter's words: keys and values by turns.
type model struct {
	room  int
	pairs []float64
}

// find is where the key stands, or -1.
func (m *model) find(k float64) int {
	for i := 0; i < len(m.pairs); i += 2 {
		if same(m.pairs[i], k) {
			return i
		}
	}
	return -1
}

func (m *model) get(k float64) []float64 {
	if at := m.find(k); at >= 0 {
		return m.pairs[at+1 : at+2]
	}
	return nil
}

func (m *model) put(k, v float64) (api.End, []float64) {
	at := m.find(k)
	switch {
	case at >= 0:
		m.pairs[at+1] = v
		return committed, []float64{0}
	case len(m.pairs) == 2*m.room:
		return isFull, nil
	}
	m.pairs = append(m.pairs, k, v)
	return committed, []float64{1}
}

func (m *model) del(k float64) []float64 {
	at := m.find(k)
	if at < 0 {
		return []float64{0}
	}
	m.pairs = slices.Delete(m.pairs, at, at+2)
	return []float64{1}
}

// world is a table over some cells beside what it should be; cells that are not the table's hold numbers of their own.
type world struct {
	t           *testing.T
	c           api.Config
	s           *state.State
	m           table.Table
	is          *model
	base, cells int
}

// inHand is what lies in a cell that is not the table's: of all kinds, also such as would be links or counts.
func inHand(cell int) float64 {
	all := []float64{nan, 1, -inf, 0.5, less0, 16, -1, 1e300, 3, inf, 2, 255}
	return all[cell%len(all)]
}

// worldOf is a table over that many cells in all, its own +0.
func worldOf(t *testing.T, base, cells, all int) *world {
	t.Helper()
	s, e := state.New(all)
	if e != api.OK {
		t.Fatal(e)
	}
	c := api.Config{Cells: all, Threads: 1, Fuel: api.MaxFuel, Writes: 8}
	w := &world{t, c, s, mustMake(t, base, cells), &model{room: min(16, (cells-8)/3)}, base, cells}
	for i := range all {
		if !w.owns(i) {
			s.Set(i, inHand(i))
		}
	}
	return w
}

// small is a table with room for so many pairs, with other cells ahead of it and behind it.
func small(t *testing.T, room int) *world {
	t.Helper()
	return worldOf(t, 2, 8+3*room, 8+3*room+5)
}

func (w *world) owns(cell int) bool { return cell >= w.base && cell < w.base+w.cells }

// run is what becomes of a call. Whatever it is: it stays within the table's cells, the fuel and eight writes, only an updater writes, and what is no table's cell is as it was.
func (w *world) run(what string, p api.Program, args ...float64) api.Result {
	w.t.Helper()
	was := w.s.All()
	r, e := alone.Run(w.c, p, args, w.s)
	if e != api.OK {
		w.t.Fatalf("%s%v: %d", what, args, e)
	}
	if r.Fuel > 1024 || len(r.Writes) > 8 || p.Tag == api.Reads && len(r.Writes) > 0 {
		w.t.Errorf("%s%v: fuel %d, writes %v", what, args, r.Fuel, r.Writes)
	}
	for _, touch := range slices.Concat(r.Reads, r.Writes) {
		if !w.owns(touch.Cell) {
			w.t.Errorf("%s%v: touches the cell %d", what, args, touch.Cell)
		}
	}
	for i, x := range w.s.All() {
		if (!w.owns(i) || p.Tag == api.Reads || r.End.How != api.Committed) && !same(x, was[i]) {
			w.t.Errorf("%s%v: the cell %d is %v, was %v", what, args, i, x, was[i])
		}
	}
	return r
}

func (w *world) want(what string, p api.Program, args []float64, end api.End, out ...float64) {
	w.t.Helper()
	r := w.run(what, p, args...)
	if r.End != end || !sameAll(r.Out, out) {
		w.t.Errorf("%s%v: %v, %v, want %v, %v", what, args, r.End, r.Out, end, out)
	}
}

// get, put and del do what they are called, and make sure that it goes as it should.
func (w *world) get(k float64) {
	w.t.Helper()
	w.want("Get", w.m.Get, []float64{k}, committed, w.is.get(k)...)
}

func (w *world) put(k, v float64) {
	w.t.Helper()
	end, out := w.is.put(fixed(k), fixed(v))
	w.want("Put", w.m.Put, []float64{k, v}, end, out...)
}

func (w *world) del(k float64) {
	w.t.Helper()
	w.want("Del", w.m.Del, []float64{k}, committed, w.is.del(k)...)
}

func fixed(x float64) float64 {
	if x != x {
		return nan
	}
	return x
}

// wantPairs makes sure of what All and Len tell: each pair once, the same each time.
func (w *world) wantPairs(pairs ...float64) {
	w.t.Helper()
	all := w.run("All", w.m.All)
	if all.End != committed || !sameAll(byKeys(all.Out), byKeys(pairs)) || len(all.Out) != len(pairs) {
		w.t.Errorf("All: %v, %v, want %v in some order", all.End, all.Out, pairs)
	}
	w.want("All", w.m.All, nil, committed, all.Out...)
	w.want("Len", w.m.Len, nil, committed, float64(len(pairs)/2))
}

// look makes sure of all that may be asked of the table: of each key, of what lies beside each, of every other kind of number and of more that are handed in.
func (w *world) look(more ...float64) {
	w.t.Helper()
	w.wantPairs(w.is.pairs...)
	asked := slices.Concat(kinds, more)
	for i := 0; i < len(w.is.pairs); i += 2 {
		k := w.is.pairs[i]
		asked = append(asked, k, -k, math.Nextafter(k, inf), math.Nextafter(k, -inf))
	}
	for _, k := range asked {
		w.get(k)
	}
}

// holds makes sure that these are the pairs, told without the model.
func (w *world) holds(pairs ...float64) {
	w.t.Helper()
	w.wantPairs(pairs...)
	w.look()
}
