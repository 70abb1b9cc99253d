package mem_test

import (
	"math"
	"testing"

	"beadle/api"
	"beadle/mem"
)

func wantPlan(t *testing.T, c api.Config, right api.Plan, rightE api.Errno) {
	t.Helper()
	if p, e := mem.Place(c); p != right || e != rightE {
		t.Errorf("Place(%+v) = %+v, %d, want %+v, %d", c, p, e, right, rightE)
	}
}

// P3.6
func TestPlaceByExamples(t *testing.T) {
	wantPlan(t, api.Config{Cells: 2, Threads: 3, Fuel: 9, Writes: 1}, api.Plan{Next: 0, Serving: 1, Stamp: 2, Census: 3, Cells: 6, Words: 12}, api.OK)
	wantPlan(t, api.Config{Cells: 1, Threads: 1, Fuel: 1, Writes: 1}, api.Plan{Next: 0, Serving: 1, Stamp: 2, Census: 3, Cells: 4, Words: 7}, api.OK)
	wantPlan(t, api.Config{Cells: 256, Threads: 8, Fuel: 1024, Writes: 32}, api.Plan{Next: 0, Serving: 1, Stamp: 2, Census: 3, Cells: 11, Words: 779}, api.OK)
	wantPlan(t, api.Config{Cells: 256, Threads: 1, Fuel: 7, Writes: 32}, api.Plan{Next: 0, Serving: 1, Stamp: 2, Census: 3, Cells: 4, Words: 772}, api.OK)
	wantPlan(t, api.Config{Cells: 1, Threads: 8, Fuel: 1024, Writes: 2}, api.Plan{Next: 0, Serving: 1, Stamp: 2, Census: 3, Cells: 11, Words: 14}, api.OK)
}

// P3.6: each number of a config at its edges and one beyond, beside the least and the greatest of the others.
func TestPlaceAtEachEdge(t *testing.T) {
	most := [4]int{256, 8, 1024, 32}
	for i := range most {
		for _, n := range []int{math.MinInt, -most[i], -1, 0, 1, 2, most[i] - 1, most[i], most[i] + 1, 2*most[i] + 1, 1 << 31, 1 << 32, math.MaxInt} {
			for _, numbers := range [][4]int{{1, 1, 1, 1}, most} {
				numbers[i] = n
				c := api.Config{Cells: numbers[0], Threads: numbers[1], Fuel: numbers[2], Writes: numbers[3]}
				if n < 1 || n > most[i] {
					wantPlan(t, c, api.Plan{}, api.ErrArg)
				} else {
					wantPlan(t, c, api.Plan{Serving: 1, Stamp: 2, Census: 3, Cells: 3 + numbers[1], Words: 3 + numbers[1] + 3*numbers[0]}, api.OK)
				}
			}
		}
	}
}

// P3.6: a config that may not be in any of its numbers.
func TestPlaceOfNoConfig(t *testing.T) {
	for _, c := range []api.Config{
		{}, {Threads: 3, Fuel: 9, Writes: 1}, {Cells: 2, Fuel: 9, Writes: 1}, {Cells: 2, Threads: 3, Writes: 1}, {Cells: 2, Threads: 3, Fuel: 9},
		{Cells: 2, Threads: 9, Fuel: 9, Writes: 1}, {Cells: 2, Threads: 3, Fuel: 1025, Writes: 1}, {Cells: 2, Threads: 3, Fuel: 9, Writes: 33}, {Cells: 257, Threads: 3, Fuel: 9, Writes: 1},
		{Cells: -1, Threads: -1, Fuel: -1, Writes: -1}, {Cells: 8, Threads: 256, Fuel: 32, Writes: 1024},
	} {
		wantPlan(t, c, api.Plan{}, api.ErrArg)
	}
}

// P3.7: the places are unlike, and none is left out; and such a memory can be made.
func TestPlacesFillTheMemory(t *testing.T) {
	for cells := 1; cells <= 256; cells++ {
		for threads := 1; threads <= 8; threads++ {
			p, e := mem.Place(api.Config{Cells: cells, Threads: threads, Fuel: 1, Writes: 1})
			if e != api.OK || p.Words > 779 {
				t.Fatalf("%d cells, %d threads: %+v, %d", cells, threads, p, e)
			}
			used := make([]int, p.Words)
			for _, at := range placesOf(p, cells, threads) {
				if at < 0 || at >= p.Words {
					t.Fatalf("%d cells, %d threads: the place %d of %d", cells, threads, at, p.Words)
				}
				used[at]++
			}
			for at, n := range used {
				if n != 1 {
					t.Fatalf("%d cells, %d threads: %d things at %d", cells, threads, n, at)
				}
			}
			if sized(t, p.Words).Len() != p.Words {
				t.Fatalf("no memory of %d words", p.Words)
			}
		}
	}
}

func placesOf(p api.Plan, cells, threads int) []int {
	places := []int{p.Next, p.Serving, p.Stamp}
	for i := range threads {
		places = append(places, p.Census+i)
	}
	for c := range cells {
		places = append(places, p.Cells+3*c, p.Cells+3*c+1, p.Cells+3*c+2)
	}
	return places
}
