package deque_test

import (
	"fmt"
	"math"
	"slices"
	"testing"

	"beadle/api"
	"beadle/code"
	"beadle/deque"
)

// odd are whole numbers at the edges of whatever an argument may be taken for.
var odd = []int{
	math.MinInt, math.MinInt + 1, math.MinInt + 2, math.MinInt + 3, math.MinInt + 255, math.MinInt + 256,
	-1 << 33, -1 << 32, -1<<32 + 3, -1 << 31, -1024, -257, -256, -253, -18, -16, -3, -2, -1,
	0, 1, 2, 3, 4, 15, 16, 17, 18, 19, 20, 200, 236, 237, 238, 239, 252, 253, 254, 255, 256, 257, 1024,
	1 << 31, 1 << 32, 1<<32 + 3, 1 << 33, 1 << 62, 1<<62 + 128, math.MaxInt - 256, math.MaxInt - 3, math.MaxInt - 2, math.MaxInt - 1, math.MaxInt,
}

// P22.1: a cell for each number beside two, none below 3, sixteen numbers at most.
func TestRoom(t *testing.T) {
	edges := map[int]int{
		2: 0, 3: 1, 4: 2, 16: 14, 17: 15, 18: 16, 19: 16, 20: 16, 256: 16, 257: 16,
		0: 0, 1: 0, -1: 0, -3: 0, -18: 0, 1 << 40: 16, 1<<32 + 3: 16, math.MaxInt: 16, math.MaxInt - 1: 16,
		math.MinInt: 0, math.MinInt + 1: 0, math.MinInt + 2: 0, math.MinInt + 18: 0,
	}
	for cells, want := range edges {
		if n := deque.Room(cells); n != want {
			t.Errorf("Room(%d) = %d, want %d", cells, n, want)
		}
	}
	for cells := -300; cells <= 600; cells++ {
		want := 0
		for want < 16 && 2+(want+1) <= cells {
			want++
		}
		if n := deque.Room(cells); n != want {
			t.Errorf("Room(%d) = %d, want %d", cells, n, want)
		}
	}
}

// mayBe tells whether a deque may lie there; the sum can't wrap, as it is made of what stands within the limits alone.
func mayBe(base, cells int) bool {
	return cells >= 3 && cells <= 256 && base >= 0 && base <= 256 && base+cells <= 256
}

// P22.2: ErrSize just where there is no room, or no memory has such cells; with it the deque is empty.
func TestMakeRefuses(t *testing.T) {
	for _, base := range odd {
		for _, cells := range odd {
			d, e := deque.Make(base, cells)
			if mayBe(base, cells) != (e == api.OK) {
				t.Errorf("Make(%d, %d) = %d", base, cells, e)
			}
			if e == api.OK {
				continue
			}
			if e != api.ErrSize {
				t.Errorf("Make(%d, %d) = %d, want ErrSize", base, cells, e)
			}
			for _, n := range programsOf(d) {
				if n.p.Tag != 0 || len(n.p.Code) != 0 {
					t.Errorf("Make(%d, %d): %s is %v, want none", base, cells, n.name, n.p)
				}
			}
		}
	}
}

// P22.2: the edges that the chapter names, and those beside them.
func TestMakeEdges(t *testing.T) {
	edges := []struct {
		base, cells int
		e           api.Errno
	}{
		{0, 2, api.ErrSize}, {0, 3, api.OK}, {-1, 5, api.ErrSize}, {0, 5, api.OK}, {254, 3, api.ErrSize}, {253, 3, api.OK},
		{0, 256, api.OK}, {0, 257, api.ErrSize}, {1, 256, api.ErrSize}, {1, 255, api.OK}, {238, 18, api.OK}, {238, 19, api.ErrSize},
		{1 << 62, 1 << 62, api.ErrSize}, {math.MaxInt, math.MaxInt, api.ErrSize}, {math.MaxInt, 3, api.ErrSize}, {3, math.MaxInt, api.ErrSize},
		{math.MinInt, math.MinInt, api.ErrSize}, {math.MinInt, 5, api.ErrSize}, {0, math.MinInt, api.ErrSize},
	}
	for _, edge := range edges {
		if _, e := deque.Make(edge.base, edge.cells); e != edge.e {
			t.Errorf("Make(%d, %d) = %d, want %d", edge.base, edge.cells, e, edge.e)
		}
	}
}

// P22.2: wherever a deque may lie, all seven programs may be, with their tags; and the same base and cells give the same.
func TestMakeEverywhere(t *testing.T) {
	for cells := 3; cells <= 256; cells++ {
		for base := range 257 - cells {
			if cells > 20 && base%19 != 0 && base+cells != 256 {
				continue
			}
			what := fmt.Sprintf("Make(%d, %d)", base, cells)
			again := programsOf(mustMake(t, base, cells))
			for i, n := range programsOf(mustMake(t, base, cells)) {
				if e := code.Check(n.p); e != api.OK || n.p.Tag != n.tag {
					t.Errorf("%s: %s: %d, the tag %d", what, n.name, e, n.p.Tag)
				}
				if !code.Same(n.p, again[i].p) {
					t.Errorf("%s: %s is not the same again", what, n.name)
				}
			}
		}
	}
}

// R4: no two programs share memory, spare room neither, nor do those of two calls.
func TestMakeMemory(t *testing.T) {
	both := append(programsOf(mustMake(t, 3, 18)), programsOf(mustMake(t, 3, 18))...)
	var texts []string
	for _, n := range both {
		s, _ := code.Print(n.p)
		texts = append(texts, s)
	}
	for i, n := range both {
		whole := n.p.Code[:cap(n.p.Code)]
		kept := slices.Clone(whole)
		for j := range whole {
			whole[j] = api.Instr{Op: api.OpAbort, N: 99}
		}
		for j, other := range both {
			if s, _ := code.Print(other.p); i != j && s != texts[j] {
				t.Fatalf("program %d is another one, once program %d is written over", j, i)
			}
		}
		copy(whole, kept)
	}
	fresh := programsOf(mustMake(t, 3, 18))
	for i := range both[:7] {
		clear(both[i].p.Code)
		if s, _ := code.Print(fresh[i].p); s != texts[i] {
			t.Errorf("%s hangs on what was done to an earlier one", both[i].name)
		}
	}
}
