package tree_test

import (
	"fmt"
	"math"
	"slices"
	"testing"

	"beadle/alone"
	"beadle/api"
	"beadle/state"
	"beadle/tree"
)

var (
	committed = api.End{How: api.Committed}
	isFull    = api.End{How: api.Aborted, Code: 1}
)

// world is a tree over some cells; those that are not the tree's hold numbers of their own.
type world struct {
	t           *testing.T
	c           api.Config
	s           *state.State
	m           tree.Tree
	base, cells int
}

// inHand is what lies in a cell that is not the tree's: of all kinds, also such as would be links or counts.
func inHand(cell int) float64 {
	kinds := []float64{nan, 1, -inf, 0.5, less0, 16, -1, 1e300, 3, inf, 2, 255}
	return kinds[cell%len(kinds)]
}

// worldOf is a tree over that many cells in all, its own +0.
func worldOf(t *testing.T, base, cells, all int) *world {
	t.Helper()
	s, e := state.New(all)
	if e != api.OK {
		t.Fatal(e)
	}
	w := &world{t, api.Config{Cells: all, Threads: 1, Fuel: api.MaxFuel, Writes: 8}, s, mustMake(t, base, cells), base, cells}
	for i := range all {
		if !w.owns(i) {
			s.Set(i, inHand(i))
		}
	}
	return w
}

// small is a tree with room for so many pairs, with other cells ahead of it and behind it.
func small(t *testing.T, room int) *world {
	t.Helper()
	return worldOf(t, 2, 4+3*room, 4+3*room+5)
}

func (w *world) owns(cell int) bool { return cell >= w.base && cell < w.base+w.cells }

// run is what becomes of a call. Whatever it is: it stays within the tree's cells, the fuel and eight writes, only an updater writes, and what is no tree's cell is as it was.
func (w *world) run(what string, p api.Program, args ...float64) api.Result {
	w.t.Helper()
	was := w.s.All()
	r, e := alone.Run(w.c, p, args, w.s)
	if e != api.OK {
		w.t.Fatalf("%s%v: %d", what, args, e)
	}
	if r.Fuel > 1024 || len(r.Writes) > 8 || p.Tag == api.Reads && len(r.Writes) > 0 {
		w.t.Errorf("%s%v: fuel %d, writes %v", what, args, r.Fuel, r.Writes)
	}
	for _, touch := range slices.Concat(r.Reads, r.Writes) {
		if !w.owns(touch.Cell) {
			w.t.Errorf("%s%v: touches the cell %d", what, args, touch.Cell)
		}
	}
	for i, x := range w.s.All() {
		if (!w.owns(i) || r.End.How != api.Committed) && !same(x, was[i]) {
			w.t.Errorf("%s%v: the cell %d is %v, was %v", what, args, i, x, was[i])
		}
	}
	return r
}

func (w *world) want(what string, p api.Program, args []float64, end api.End, out ...float64) {
	w.t.Helper()
	r := w.run(what, p, args...)
	if r.End != end || !sameAll(r.Out, out) {
		w.t.Errorf("%s%v: %v, %v, want %v, %v", what, args, r.End, r.Out, end, out)
	}
}

func (w *world) wantGet(k float64, out ...float64) {
	w.t.Helper()
	w.want("Get", w.m.Get, []float64{k}, committed, out...)
}

func (w *world) wantPut(k, v float64, out float64) {
	w.t.Helper()
	w.want("Put", w.m.Put, []float64{k, v}, committed, out)
}

func (w *world) wantFull(k, v float64) {
	w.t.Helper()
	w.want("Put", w.m.Put, []float64{k, v}, isFull)
}

func (w *world) wantDel(k float64, out float64) {
	w.t.Helper()
	w.want("Del", w.m.Del, []float64{k}, committed, out)
}

// wantPairs makes sure of all that may be asked of a tree with these keys and values, which are handed in in their order: of each key, of what stands beside each, and of every other kind of number.
func (w *world) wantPairs(pairs ...float64) {
	w.t.Helper()
	w.want("All", w.m.All, nil, committed, pairs...)
	w.want("Len", w.m.Len, nil, committed, float64(len(pairs)/2))
	w.want("Least", w.m.Least, nil, committed, pairs[:min(2, len(pairs))]...)
	asked := slices.Clone(sorted)
	for i := 0; i < len(pairs); i += 2 {
		k := pairs[i]
		asked = append(asked, k, -k, math.Nextafter(k, inf), math.Nextafter(k, -inf))
	}
	for _, k := range asked {
		k = fixed(k)
		var got, after []float64
		for i := len(pairs) - 2; i >= 0; i -= 2 {
			if same(pairs[i], k) {
				got = pairs[i+1 : i+2]
			}
			if ahead(k, pairs[i]) {
				after = pairs[i : i+2]
			}
		}
		w.wantGet(k, got...)
		w.want("After", w.m.After, []float64{k}, committed, after...)
	}
}

func fixed(x float64) float64 {
	if x != x {
		return nan
	}
	return x
}

// P20.3: over cells of +0 there is no pair.
func TestEmpty(t *testing.T) {
	for _, cells := range []int{7, 10, 51, 52, 56, 250} {
		w := worldOf(t, 3, cells, 256)
		w.wantPairs()
		for _, k := range sorted {
			w.wantDel(k, 0)
		}
		w.wantPairs()
	}
}

// P20.3: a pair of each kind of key and of value: it is there by all that may be asked, its value is replaced, it goes.
func TestOnePair(t *testing.T) {
	w := worldOf(t, 249, 7, 256)
	for _, k := range sorted {
		for i, v := range sorted {
			w.wantPut(k, v, 1)
			w.wantPairs(k, v)
			next := sorted[(i+1)%len(sorted)]
			w.wantPut(k, next, 0)
			w.wantPairs(k, next)
			w.wantDel(k, 1)
			w.wantPairs()
		}
	}
}

// P20.3: keys are the same by their bits: both noughts are keys, each NaN is the one.
func TestNoughtsAndNaN(t *testing.T) {
	w := small(t, 3)
	w.wantPut(0, 1, 1)
	w.wantGet(less0)
	w.wantDel(less0, 0)
	w.wantPut(less0, 2, 1)
	w.wantPut(math.Float64frombits(0xfff8000000000001), 3, 1)
	w.wantPut(math.Float64frombits(0x7ff0000000000001), 4, 0)
	w.wantPairs(less0, 2, 0, 1, nan, 4)
	w.wantPut(0, math.Float64frombits(0xffffffffffffffff), 0)
	w.wantPairs(less0, 2, 0, nan, nan, 4)
	w.wantDel(0, 1)
	w.wantPairs(less0, 2, nan, 4)
	w.wantDel(math.Float64frombits(0xfff0000000000001), 1)
	w.wantPairs(less0, 2)
}

// P20.3: with as many pairs as there is room for a new key is aborted with the code 1, and nothing changes; a key that is there is not.
func TestFull(t *testing.T) {
	for room := 1; room <= 16; room++ {
		w := small(t, room)
		var pairs []float64
		for i, k := range sorted[:room] {
			w.wantPut(k, float64(i), 1)
			pairs = append(pairs, k, float64(i))
		}
		for _, k := range sorted[room:] {
			w.wantFull(k, 7)
		}
		w.wantFull(0.75, 7)
		w.wantPairs(pairs...)
		for i := range room {
			w.wantPut(pairs[2*i], less0, 0)
			pairs[2*i+1] = less0
		}
		w.wantPairs(pairs...)
		w.wantDel(sorted[room/2], 1)
		w.wantPut(nan, 5, 1)
		w.wantFull(sorted[room/2], 6)
		w.wantPairs(append(slices.Delete(pairs, room/2*2, room/2*2+2), nan, 5)...)
	}
}

// P20.3: more cells than sixteen pairs need give no more room.
func TestNoMoreThanSixteen(t *testing.T) {
	w := worldOf(t, 0, 256, 256)
	for k := range 16 {
		w.wantPut(float64(k), 0, 1)
	}
	w.wantFull(16, 0)
	w.want("Len", w.m.Len, nil, committed, 16)
}

// P20.3: an argument that is missing is +0, one that is too many counts for nothing.
func TestMissingArguments(t *testing.T) {
	w := small(t, 2)
	w.want("Put", w.m.Put, nil, committed, 1)
	w.wantPairs(0, 0)
	w.want("Put", w.m.Put, []float64{0, 9}, committed, 0)
	w.want("Get", w.m.Get, nil, committed, 9)
	w.want("Put", w.m.Put, []float64{3}, committed, 1)
	w.wantPairs(0, 9, 3, 0)
	w.want("After", w.m.After, nil, committed, 3, 0)
	w.want("Del", w.m.Del, nil, committed, 1)
	w.want("Del", w.m.Del, nil, committed, 0)
	w.wantPairs(3, 0)
	more := []float64{3, 4, 5, 6, 7, 8, 9, 10}
	w.want("Get", w.m.Get, more, committed, 0)
	w.want("Put", w.m.Put, more, committed, 0)
	w.want("Len", w.m.Len, more, committed, 1)
	w.want("Least", w.m.Least, more, committed, 3, 4)
	w.want("All", w.m.All, more, committed, 3, 4)
	w.want("After", w.m.After, more, committed)
	w.want("Del", w.m.Del, more, committed, 1)
	w.wantPairs()
}

// ways are orders in which keys may come: each grows another tree.
func ways(n int) map[string][]int {
	up, down, inward, outward := make([]int, n), make([]int, n), make([]int, n), make([]int, n)
	for i := range n {
		up[i], down[i] = i, n-1-i
		inward[i] = i / 2
		if i%2 == 1 {
			inward[i] = n - 1 - i/2
		}
	}
	for i := range n {
		outward[i] = inward[n-1-i]
	}
	all := map[string][]int{"up": up, "down": down, "inward": inward, "outward": outward}
	for i := range 4 {
		r := rule(i)
		all[fmt.Sprint("mixed", i)] = r.mixed(n)
	}
	return all
}

// P20.3, P20.4: sixteen pairs that come and go in every order of these: each call within the fuel, each key at each place.
func TestSixteenInAnyOrder(t *testing.T) {
	for comes, in := range ways(16) {
		for goes, out := range ways(16) {
			w := worldOf(t, 1, 52, 60)
			for _, i := range in {
				w.wantPut(sorted[i], float64(i), 1)
			}
			w.wantPairs(pairsOf(in)...)
			for n, i := range out {
				w.wantDel(sorted[i], 1)
				w.wantDel(sorted[i], 0)
				w.want("All", w.m.All, nil, committed, pairsOf(out[n+1:])...)
			}
			w.wantPairs()
			if t.Failed() {
				t.Fatal(comes, goes)
			}
		}
	}
}

// pairsOf are the pairs of sorted with these numbers, in their order.
func pairsOf(numbers []int) []float64 {
	var pairs []float64
	for _, i := range slices.Sorted(slices.Values(numbers)) {
		pairs = append(pairs, sorted[i], float64(i))
	}
	return pairs
}

// P20.3: every order in which up to five keys come, and each key out of every such tree, and back.
func TestEveryOrder(t *testing.T) {
	for n := 1; n <= 5; n++ {
		for _, in := range orders(n) {
			for gone := range n {
				w := small(t, n)
				for _, i := range in {
					w.wantPut(sorted[3*i], float64(3*i), 1)
				}
				w.wantDel(sorted[3*gone], 1)
				var left []int
				for i := range n {
					if i != gone {
						left = append(left, 3*i)
					}
				}
				w.wantPairs(pairsOf(left)...)
				w.wantPut(sorted[3*gone], float64(3*gone), 1)
				w.wantPairs(pairsOf(append(left, 3*gone))...)
				if t.Failed() {
					t.Fatal(in, gone)
				}
			}
		}
	}
}

// orders are all orders of 0 to n - 1.
func orders(n int) [][]int {
	if n == 0 {
		return [][]int{nil}
	}
	var all [][]int
	for _, fewer := range orders(n - 1) {
		for at := range n {
			all = append(all, slices.Insert(slices.Clone(fewer), at, n-1))
		}
	}
	return all
}

// The chapter's examples.
func TestExamples(t *testing.T) {
	w := worldOf(t, 2, 10, 12)
	w.wantPut(5, 50, 1)
	w.wantPut(less0, 7, 1)
	w.wantPut(5, 51, 0)
	w.wantFull(9, 1)
	w.wantGet(5, 51)
	w.wantGet(0)
	w.want("Least", w.m.Least, nil, committed, less0, 7)
	w.want("After", w.m.After, []float64{less0}, committed, 5, 51)
	w.want("After", w.m.After, []float64{5}, committed)
	w.want("Len", w.m.Len, nil, committed, 2)
	w.wantDel(less0, 1)
	w.wantDel(less0, 0)
	w.wantPut(math.NaN(), 1, 1)
	w.want("All", w.m.All, nil, committed, 5, 51, nan, 1)
}

// README's example.
func TestReadme(t *testing.T) {
	w := worldOf(t, 2, 10, 12)
	w.wantPut(5, 50, 1)
	w.wantPut(math.Copysign(0, -1), 7, 1)
	w.wantPut(5, 51, 0)
	w.wantFull(9, 1)
	w.wantGet(5, 51)
	w.wantGet(0)
	w.want("Least", w.m.Least, nil, committed, less0, 7)
	w.want("After", w.m.After, []float64{-3}, committed, less0, 7)
	w.want("After", w.m.After, []float64{5}, committed)
	w.wantDel(5, 1)
	w.wantDel(5, 0)
	w.wantPut(math.NaN(), 1, 1)
	w.want("All", w.m.All, nil, committed, less0, 7, nan, 1)
	w.want("Len", w.m.Len, nil, committed, 2)
}
