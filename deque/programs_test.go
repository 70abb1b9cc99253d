package deque_test

import (
	"math"
	"slices"
	"testing"

	"beadle/api"
	"beadle/state"
)

// rooms are those at the edges, and one between.
var rooms = []int{1, 2, 3, 7, 15, 16}

// counted are so many numbers from 101 on, which are no index of anything.
func counted(n int) []float64 {
	var row []float64
	for i := range n {
		row = append(row, float64(101+i))
	}
	return row
}

// P22.3: over cells of +0 the row is empty, and nothing is taken from it.
func TestEmpty(t *testing.T) {
	for _, cells := range []int{3, 4, 5, 17, 18, 19, 60, 250} {
		w := worldOf(t, 3, cells, 256)
		w.holds()
		w.want(popFront, nil, committed)
		w.want(popBack, nil, committed)
		w.holds()
		for _, x := range slices.Concat(kinds, noIndex) {
			w.want(at, []float64{x}, committed)
		}
	}
}

// P22.3: one number of each kind, pushed and popped at each end.
func TestOneNumber(t *testing.T) {
	for _, room := range rooms {
		w := small(t, room)
		for _, x := range kinds {
			for _, in := range []int{pushFront, pushBack} {
				for _, out := range []int{popFront, popBack} {
					w.want(in, []float64{x}, committed, 1)
					w.holds(x)
					w.want(out, nil, committed, x)
					w.holds()
					w.want(out, nil, committed)
				}
			}
		}
	}
}

// P22.3: PushBack lays behind all, PushFront in front of all; PopFront takes the first one, PopBack the last one.
func TestEnds(t *testing.T) {
	w := small(t, 4)
	w.want(pushBack, []float64{1}, committed, 1)
	w.holds(1)
	w.want(pushBack, []float64{2}, committed, 2)
	w.holds(1, 2)
	w.want(pushFront, []float64{3}, committed, 3)
	w.holds(3, 1, 2)
	w.want(pushFront, []float64{4}, committed, 4)
	w.holds(4, 3, 1, 2)
	w.want(popBack, nil, committed, 2)
	w.holds(4, 3, 1)
	w.want(popFront, nil, committed, 4)
	w.holds(3, 1)
	w.want(popBack, nil, committed, 1)
	w.holds(3)
	w.want(popFront, nil, committed, 3)
	w.holds()
}

// R6: each NaN is the one, both noughts stay what they are.
func TestNumbersAreFixed(t *testing.T) {
	w := small(t, 16)
	var row []float64
	for _, bits := range []uint64{0x7ff0000000000001, 0x7ff8000000000001, 0x7fffffffffffffff, 0xfff0000000000001, 0xfff8000000000000, 0xffffffffffffffff} {
		row = append(row, nan, less0, 0)
		n := float64(len(row))
		w.want(pushBack, []float64{math.Float64frombits(bits)}, committed, n-2)
		if len(row) > 15 {
			break
		}
		w.want(pushBack, []float64{less0}, committed, n-1)
		w.want(pushBack, []float64{0}, committed, n)
	}
	w.holds(row[:16]...)
	w.want(at, []float64{math.Float64frombits(0xfff0000000000001)}, committed)
}

// P22.3: with as many numbers as there is room for a push at either end is aborted with the code 1, and nothing changes; once one is taken there is room for one.
func TestFull(t *testing.T) {
	for room := 1; room <= 16; room++ {
		row := counted(room)
		for _, ends := range [][2]int{{pushFront, popFront}, {pushFront, popBack}, {pushBack, popFront}, {pushBack, popBack}} {
			w := of(t, room, room/2, row...)
			for _, x := range kinds {
				w.want(pushFront, []float64{x}, isFull)
				w.want(pushBack, []float64{x}, isFull)
			}
			w.want(pushFront, nil, isFull)
			w.want(pushBack, nil, isFull)
			w.holds(row...)
			w.do(ends[1])
			w.do(ends[0], less0)
			w.want(pushFront, []float64{1}, isFull)
			w.want(pushBack, []float64{1}, isFull)
			w.look()
		}
	}
}

// P22.1, P22.3: more cells than sixteen numbers need give no more room.
func TestCellsOver(t *testing.T) {
	for cells, room := range map[int]int{3: 1, 4: 2, 17: 15, 18: 16, 19: 16, 34: 16, 36: 16, 256: 16} {
		w := worldOf(t, 0, cells, 256)
		row := counted(room)
		for i, x := range row {
			w.want(pushBack, []float64{x}, committed, float64(i+1))
		}
		w.want(pushBack, []float64{1}, isFull)
		w.want(pushFront, []float64{1}, isFull)
		w.holds(row...)
	}
}

// P22.3: At takes an index as number.Index does, whatever the row's length.
func TestAt(t *testing.T) {
	for _, room := range rooms {
		for n := range room + 1 {
			row := counted(n)
			w := of(t, room, n+1, row...)
			for i, x := range row {
				w.want(at, []float64{float64(i)}, committed, x)
				w.want(at, []float64{math.Nextafter(float64(i), inf)}, committed)
				w.want(at, []float64{math.Nextafter(float64(i), -inf)}, committed)
				w.want(at, []float64{float64(i + room)}, committed)
				w.want(at, []float64{float64(i + room + 1)}, committed)
				w.want(at, []float64{float64(i - room)}, committed)
				w.want(at, []float64{float64(i - room - 1)}, committed)
			}
			w.want(at, []float64{float64(n)}, committed)
			w.want(at, []float64{less0}, committed, row[:min(n, 1)]...)
			w.want(at, nil, committed, row[:min(n, 1)]...)
		}
	}
}

// P22.3: what is no index of sixteen numbers is none of At's.
func TestAtNoIndex(t *testing.T) {
	w := of(t, 16, 5, counted(16)...)
	for _, x := range noIndex {
		if x != 1 {
			w.want(at, []float64{x}, committed)
		}
	}
	w.holds(counted(16)...)
}

// P22.3: an argument that is missing is +0, one that is too many counts for nothing.
func TestArguments(t *testing.T) {
	w := small(t, 3)
	more := []float64{3, 4, 5, 6, 7, 8, 9, 10}
	w.want(pushFront, nil, committed, 1)
	w.want(pushBack, nil, committed, 2)
	w.holds(0, 0)
	w.want(pushFront, more, committed, 3)
	w.holds(3, 0, 0)
	w.want(at, nil, committed, 3)
	w.want(popFront, more, committed, 3)
	w.want(pushBack, more, committed, 3)
	w.holds(0, 0, 3)
	w.want(at, []float64{2, 0, 0, 0, 0, 0, 0, 0}, committed, 3)
	w.want(howMany, more, committed, 3)
	w.want(all, more, committed, 0, 0, 3)
	w.want(popBack, more, committed, 3)
	w.holds(0, 0)
}

// P22.3: every program over rows of every length, wherever in the cells they begin, and whichever way they went there.
func TestEveryRow(t *testing.T) {
	for room := 1; room <= 16; room++ {
		for turned := -room; turned <= room; turned++ {
			for n := range room + 1 {
				w := of(t, room, turned, kinds[:n]...)
				w.look()
				was := w.s
				for which := pushFront; which <= popBack; which++ {
					w.s, w.is.row = was.Clone(), slices.Clone(kinds[:n])
					w.do(which, less0)
					w.look()
				}
				if t.Failed() {
					t.Fatal(room, turned, n)
				}
			}
		}
	}
}

// P22.3: a row of any length goes round its cells three times, one way and the other, and stays what it is behind each time.
func TestRound(t *testing.T) {
	for room := 1; room <= 16; room++ {
		for n := 1; n <= room; n++ {
			w := of(t, room, 0, counted(n)...)
			for _, by := range []int{3 * room * n, -6 * room * n, 3 * room * n} {
				w.turn(by)
				w.holds(counted(n)...)
			}
		}
	}
}

// P22.3: the longest ways round: what comes in at one end goes out at the other one, many more times than there are cells.
func TestThrough(t *testing.T) {
	for _, room := range rooms {
		for _, ends := range [][2]int{{pushBack, popFront}, {pushFront, popBack}, {pushBack, popBack}, {pushFront, popFront}} {
			w := of(t, room, 0, counted(room-1)...)
			for i := range 200 {
				w.do(ends[0], float64(i))
				w.do(ends[1])
			}
			w.look()
		}
	}
}

// The chapter's examples.
func TestExamples(t *testing.T) {
	w := worldOf(t, 1, 5, 7)
	w.s, _ = state.New(7)
	for _, which := range []int{popFront, popBack, all} {
		w.want(which, nil, committed)
	}
	w.want(pushBack, []float64{5}, committed, 1)
	w.want(pushFront, []float64{less0}, committed, 2)
	w.want(pushBack, []float64{6}, committed, 3)
	w.want(pushFront, []float64{9}, api.End{How: api.Aborted, Code: 1})
	w.want(all, nil, committed, less0, 5, 6)
	w.want(at, []float64{0}, committed, less0)
	w.want(at, []float64{less0}, committed, less0)
	w.want(at, []float64{2}, committed, 6)
	for _, x := range []float64{3, 0.5, math.NaN()} {
		w.want(at, []float64{x}, committed)
	}
	w.want(howMany, nil, committed, 3)
	w.want(popBack, nil, committed, 6)
	w.want(popFront, nil, committed, less0)
	w.want(popFront, nil, committed, 5)
	w.want(popFront, nil, committed)
	w.want(howMany, nil, committed, 0)
}

// README's example.
func TestReadme(t *testing.T) {
	w := worldOf(t, 1, 5, 7)
	w.want(pushBack, []float64{5}, committed, 1)
	w.want(pushFront, []float64{math.Copysign(0, -1)}, committed, 2)
	w.want(pushBack, []float64{6}, committed, 3)
	w.want(pushFront, []float64{9}, isFull)
	w.want(all, nil, committed, less0, 5, 6)
	w.want(at, []float64{2}, committed, 6)
	w.want(at, []float64{3}, committed)
	w.want(popBack, nil, committed, 6)
	w.want(popFront, nil, committed, less0)
	w.want(howMany, nil, committed, 1)
	w.want(popFront, nil, committed, 5)
	w.want(popFront, nil, committed)
}

// P22.4: with the fuel that a call uses it does the same, with less it fails, and nothing has changed; with fewer writes than it has likewise.
func TestLessFuelLessWrites(t *testing.T) {
	for _, room := range []int{1, 2, 16} {
		for _, turned := range []int{0, room - 1} {
			for n := range room + 1 {
				w := of(t, room, turned, kinds[:n]...)
				for which := range w.programs {
					for _, x := range []float64{0, float64(n), 0.5, nan} {
						w.wantLess(which, x)
					}
				}
				w.look()
				if t.Failed() {
					t.Fatal(room, turned, n)
				}
			}
		}
	}
}

// wantLess looks at a call over copies of the state.
func (w *world) wantLess(which int, x float64) {
	w.t.Helper()
	was, full := w.s, w.c
	defer func() { w.s, w.c = was, full }()
	w.s = was.Clone()
	r := w.run(which, x)
	behind := w.s
	w.s = was.Clone()
	w.c.Fuel, w.c.Writes = r.Fuel, max(1, len(r.Writes))
	w.want(which, []float64{x}, r.End, r.Out...)
	if !w.s.Same(behind) {
		w.t.Errorf("%s[%v]: with the fuel and the writes that it uses it does another thing", w.programs[which].name, x)
	}
	w.s = was.Clone()
	for w.c.Fuel = r.Fuel - 1; w.c.Fuel > 0; w.c.Fuel-- {
		w.wantFails(which, x, api.ErrFuel)
	}
	w.c.Fuel = r.Fuel
	for w.c.Writes = len(r.Writes) - 1; w.c.Writes > 0; w.c.Writes-- {
		w.wantFails(which, x, api.ErrTooManyWrites)
	}
}

// wantFails: that nothing has changed then, run sees to.
func (w *world) wantFails(which int, x float64, e api.Errno) {
	w.t.Helper()
	if r := w.run(which, x); r.End != (api.End{How: api.Failed, E: e}) {
		w.t.Errorf("%s[%v] with fuel %d, writes %d: %v, want the error %d", w.programs[which].name, x, w.c.Fuel, w.c.Writes, r.End, e)
	}
}
