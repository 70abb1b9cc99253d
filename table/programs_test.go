package table_test

import (
	"math"
	"slices"
	"testing"

	"beadle/api"
	"beadle/number"
)

// P21.3: over cells of +0 there is no pair.
func TestEmpty(t *testing.T) {
	for _, cells := range []int{11, 12, 13, 14, 55, 56, 60, 250} {
		w := worldOf(t, 3, cells, 256)
		w.holds()
		for _, k := range kinds {
			w.want("Del", w.m.Del, []float64{k}, committed, 0)
		}
		w.holds()
	}
}

// P21.3: a pair of each kind of key and of value: it is there by all that may be asked, its value is replaced, it goes.
func TestOnePair(t *testing.T) {
	w := worldOf(t, 245, 11, 256)
	for _, k := range kinds {
		for i, v := range kinds {
			w.put(k, v)
			w.holds(k, v)
			next := kinds[(i+1)%len(kinds)]
			w.put(k, next)
			w.holds(k, next)
			w.del(k)
			w.holds()
		}
	}
}

// P21.3: keys are the same by their bits: both noughts are keys, each NaN is the one.
func TestNoughtsAndNaN(t *testing.T) {
	w := small(t, 3)
	put := func(k, v, out float64) {
		w.is.put(fixed(k), fixed(v))
		w.want("Put", w.m.Put, []float64{k, v}, committed, out)
	}
	del := func(k, out float64) {
		w.is.del(k)
		w.want("Del", w.m.Del, []float64{k}, committed, out)
	}
	put(0, 1, 1)
	w.want("Get", w.m.Get, []float64{less0}, committed)
	del(less0, 0)
	put(less0, 2, 1)
	put(math.Float64frombits(0xfff8000000000001), 3, 1)
	put(math.Float64frombits(0x7ff0000000000001), 4, 0)
	w.holds(less0, 2, 0, 1, nan, 4)
	w.want("Get", w.m.Get, []float64{math.Float64frombits(0x7fffffffffffffff)}, committed, 4)
	put(0, math.Float64frombits(0xffffffffffffffff), 0)
	w.holds(less0, 2, 0, nan, nan, 4)
	del(0, 1)
	w.holds(less0, 2, nan, 4)
	del(math.Float64frombits(0xfff0000000000001), 1)
	w.holds(less0, 2)
}

// P21.3: with as many pairs as there is room for a new key is aborted with the code 1, and nothing changes; a key that is there is not.
func TestFull(t *testing.T) {
	for room := 1; room <= 16; room++ {
		w := small(t, room)
		var pairs []float64
		for i, k := range kinds[:room] {
			w.want("Put", w.m.Put, []float64{k, float64(i)}, committed, 1)
			w.is.put(k, float64(i))
			pairs = append(pairs, k, float64(i))
		}
		for _, k := range slices.Concat(kinds[room:], ofOneHash(t, kinds[0], 5)[1:], []float64{0.75}) {
			w.want("Put", w.m.Put, []float64{k, 7}, isFull)
		}
		w.holds(pairs...)
		for i := range room {
			w.put(pairs[2*i], less0)
			pairs[2*i+1] = less0
		}
		w.holds(pairs...)
		gone := room / 2 * 2
		w.del(pairs[gone])
		w.put(nan, 5)
		w.want("Put", w.m.Put, []float64{pairs[gone], 6}, isFull)
		w.holds(append(slices.Delete(pairs, gone, gone+2), nan, 5)...)
	}
}

// P21.3: more cells than sixteen pairs need give no more room, nor do one or two more than so many pairs need.
func TestCellsOver(t *testing.T) {
	for cells, room := range map[int]int{11: 1, 12: 1, 13: 1, 14: 2, 15: 2, 55: 15, 56: 16, 57: 16, 59: 16, 256: 16} {
		w := worldOf(t, 0, cells, 256)
		for k := range room {
			w.want("Put", w.m.Put, []float64{float64(k), 0}, committed, 1)
		}
		w.want("Put", w.m.Put, []float64{float64(room), 0}, isFull)
		w.want("Len", w.m.Len, nil, committed, float64(room))
	}
}

// P21.3: an argument that is missing is +0, one that is too many counts for nothing.
func TestMissingArguments(t *testing.T) {
	w := small(t, 2)
	w.want("Get", w.m.Get, nil, committed)
	w.want("Put", w.m.Put, nil, committed, 1)
	w.wantPairs(0, 0)
	w.want("Put", w.m.Put, []float64{0, 9}, committed, 0)
	w.want("Get", w.m.Get, nil, committed, 9)
	w.want("Put", w.m.Put, []float64{0}, committed, 0)
	w.want("Put", w.m.Put, []float64{3}, committed, 1)
	w.wantPairs(0, 0, 3, 0)
	w.want("Del", w.m.Del, nil, committed, 1)
	w.want("Del", w.m.Del, nil, committed, 0)
	w.wantPairs(3, 0)
	more := []float64{3, 4, 5, 6, 7, 8, 9, 10}
	w.want("Get", w.m.Get, more, committed, 0)
	w.want("Put", w.m.Put, more, committed, 0)
	w.want("Len", w.m.Len, more, committed, 1)
	w.want("All", w.m.All, more, committed, 3, 4)
	w.want("Del", w.m.Del, more, committed, 1)
	w.wantPairs()
}

// ofEveryHash are numbers whose hashes leave every rest, whatever up to a hundred they are divided by, the least hash and the greatest one among them.
func ofEveryHash(t *testing.T) []float64 {
	t.Helper()
	var all []float64
	seen := make([]bool, 65536)
	for i := range 1 << 22 {
		x := float64(i)
		h, _ := number.One(api.OneHash, x)
		if n := int(h); (n < 100 || n >= 65536-100) && !seen[n] {
			seen[n] = true
			all = append(all, x)
		}
	}
	if len(all) != 200 {
		t.Fatalf("%d of 200 hashes", len(all))
	}
	return all
}

// P21.3: keys of every hash are found and emitted, alone and with others.
func TestKeysOfEveryHash(t *testing.T) {
	keys := ofEveryHash(t)
	w := small(t, 16)
	for i, k := range keys {
		w.put(k, float64(i))
		w.wantPairs(w.is.pairs...)
		w.get(k)
		if i >= 15 {
			w.want("Put", w.m.Put, []float64{-k, 1}, isFull)
			w.del(keys[i-15])
		}
		w.get(keys[max(0, i-15)])
	}
	w.look(keys...)
}

// ways are orders in which keys may come and go.
func ways(n int) [][]int {
	up, down, inward := make([]int, n), make([]int, n), make([]int, n)
	for i := range n {
		up[i], down[i], inward[i] = i, n-1-i, i/2
		if i%2 == 1 {
			inward[i] = n - 1 - i/2
		}
	}
	all := [][]int{up, down, inward}
	for i := range 4 {
		r := rule(i)
		all = append(all, r.mixed(n))
	}
	return all
}

// P21.3, P21.4: keys of one hash, as many as there is room for, put, found and taken out in any order; another one of that hash is not there.
func TestKeysOfOneHash(t *testing.T) {
	for _, x := range []float64{0, less0, 1, nan, inf, -inf, 5} {
		for _, room := range []int{1, 2, 7, 16} {
			keys := ofOneHash(t, x, room+3)
			for _, in := range ways(room) {
				for _, out := range ways(room) {
					w := small(t, room)
					for _, i := range in {
						w.put(keys[i], float64(i))
						w.put(keys[i], float64(-i))
					}
					w.look(keys...)
					w.want("Put", w.m.Put, []float64{keys[room], 1}, isFull)
					w.del(keys[room])
					for _, i := range out {
						w.want("Del", w.m.Del, []float64{keys[i]}, committed, 1)
						w.is.del(keys[i])
						w.want("Del", w.m.Del, []float64{keys[i]}, committed, 0)
						w.wantPairs(w.is.pairs...)
					}
					w.look(keys...)
					if t.Failed() {
						t.Fatal(x, room, in, out)
					}
				}
			}
		}
	}
}

// P21.3: every order in which up to four keys come and go, of one hash, of many, and of both.
func TestEveryOrder(t *testing.T) {
	one := ofOneHash(t, less0, 4)
	for _, keys := range [][]float64{one, kinds[:4], {less0, 1, one[1], nan}, {0, 1, 2, 3}} {
		for n := 1; n <= 4; n++ {
			for _, in := range orders(n) {
				for _, out := range orders(n) {
					w := small(t, n)
					for _, i := range in {
						w.put(keys[i], float64(i))
					}
					w.look(keys...)
					for _, i := range out {
						w.del(keys[i])
						w.wantPairs(w.is.pairs...)
						w.put(keys[i], 9)
						w.del(keys[i])
						w.wantPairs(w.is.pairs...)
					}
					if t.Failed() {
						t.Fatal(keys, in, out)
					}
				}
			}
		}
	}
}

// orders are all orders of 0 to n - 1.
func orders(n int) [][]int {
	if n == 0 {
		return [][]int{nil}
	}
	var all [][]int
	for _, fewer := range orders(n - 1) {
		for at := range n {
			all = append(all, slices.Insert(slices.Clone(fewer), at, n-1))
		}
	}
	return all
}

// The chapter's examples.
func TestExamples(t *testing.T) {
	w := worldOf(t, 2, 14, 16)
	w.want("Put", w.m.Put, []float64{5, 50}, committed, 1)
	w.want("Put", w.m.Put, []float64{less0, 7}, committed, 1)
	w.want("Put", w.m.Put, []float64{5, 51}, committed, 0)
	w.want("Put", w.m.Put, []float64{9, 1}, api.End{How: api.Aborted, Code: 1})
	w.want("Get", w.m.Get, []float64{5}, committed, 51)
	w.want("Get", w.m.Get, []float64{0}, committed)
	w.wantPairs(5, 51, less0, 7)
	w.want("Del", w.m.Del, []float64{less0}, committed, 1)
	w.want("Del", w.m.Del, []float64{less0}, committed, 0)
	w.want("Put", w.m.Put, []float64{math.NaN(), 1}, committed, 1)
	w.want("Get", w.m.Get, []float64{math.NaN()}, committed, 1)
	w.wantPairs(5, 51, nan, 1)
}

// README's example.
func TestReadme(t *testing.T) {
	w := worldOf(t, 2, 14, 16)
	w.want("Put", w.m.Put, []float64{5, 50}, committed, 1)
	w.want("Put", w.m.Put, []float64{math.Copysign(0, -1), 7}, committed, 1)
	w.want("Put", w.m.Put, []float64{5, 51}, committed, 0)
	w.want("Put", w.m.Put, []float64{9, 1}, isFull)
	w.want("Get", w.m.Get, []float64{5}, committed, 51)
	w.want("Get", w.m.Get, []float64{0}, committed)
	w.want("Del", w.m.Del, []float64{5}, committed, 1)
	w.want("Del", w.m.Del, []float64{5}, committed, 0)
	w.want("Put", w.m.Put, []float64{math.NaN(), 1}, committed, 1)
	w.wantPairs(less0, 7, nan, 1)
	w.want("Len", w.m.Len, nil, committed, 2)
}
