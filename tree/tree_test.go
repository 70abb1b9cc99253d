package tree_test

import (
	"fmt"
	"math"
	"slices"
	"testing"

	"beadle/api"
	"beadle/code"
	"beadle/number"
	"beadle/tree"
)

// named is a program of a tree with what it is called, and the tag that it must have.
type named struct {
	name string
	p    api.Program
	tag  int
}

func programsOf(m tree.Tree) []named {
	return []named{
		{"Get", m.Get, api.Reads}, {"Put", m.Put, api.Updates}, {"Del", m.Del, api.Updates}, {"Least", m.Least, api.Reads},
		{"After", m.After, api.Reads}, {"Len", m.Len, api.Reads}, {"All", m.All, api.Reads},
	}
}

// mustMake is Make where there must be a tree.
func mustMake(t *testing.T, base, cells int) tree.Tree {
	t.Helper()
	m, e := tree.Make(base, cells)
	if e != api.OK {
		t.Fatalf("Make(%d, %d) = %d, want OK", base, cells, e)
	}
	return m
}

// odd are whole numbers at the edges of whatever an argument may be taken for.
var odd = []int{
	math.MinInt, math.MinInt + 1, math.MinInt + 6, math.MinInt + 7, math.MinInt + 255, math.MinInt + 256,
	-1 << 33, -1 << 32, -1<<32 + 7, -1 << 31, -1024, -257, -256, -250, -249, -52, -7, -4, -2, -1,
	0, 1, 2, 3, 4, 5, 6, 7, 8, 9, 10, 51, 52, 53, 200, 248, 249, 250, 251, 254, 255, 256, 257, 1024,
	1 << 31, 1 << 32, 1<<32 + 7, 1 << 33, 1 << 62, math.MaxInt - 256, math.MaxInt - 7, math.MaxInt - 4, math.MaxInt - 1, math.MaxInt,
}

// P20.1: three cells for each pair beside four, none below 7, sixteen pairs at most.
func TestRoom(t *testing.T) {
	edges := map[int]int{
		6: 0, 7: 1, 9: 1, 10: 2, 12: 2, 13: 3, 48: 14, 49: 15, 51: 15, 52: 16, 53: 16, 55: 16, 56: 16, 256: 16, 257: 16,
		0: 0, 1: 0, 3: 0, 4: 0, 5: 0, -1: 0, -7: 0, -52: 0, 1 << 40: 16, 1<<32 + 7: 16, math.MaxInt: 16, math.MinInt: 0, math.MinInt + 3: 0,
	}
	for cells, want := range edges {
		if n := tree.Room(cells); n != want {
			t.Errorf("Room(%d) = %d, want %d", cells, n, want)
		}
	}
	for cells := -300; cells <= 600; cells++ {
		want := 0
		for want < 16 && 4+3*(want+1) <= cells {
			want++
		}
		if n := tree.Room(cells); n != want {
			t.Errorf("Room(%d) = %d, want %d", cells, n, want)
		}
	}
}

// mayBe tells whether a tree may lie there; the sum can't wrap, as it is made of what stands within the limits alone.
func mayBe(base, cells int) bool {
	return cells >= 7 && cells <= 256 && base >= 0 && base <= 256 && base+cells <= 256
}

// P20.2: ErrSize just where there is no room, or no memory has such cells; with it the tree is empty.
func TestMakeRefuses(t *testing.T) {
	for _, base := range odd {
		for _, cells := range odd {
			m, e := tree.Make(base, cells)
			if mayBe(base, cells) != (e == api.OK) {
				t.Errorf("Make(%d, %d) = %d", base, cells, e)
			}
			if e == api.OK {
				continue
			}
			if e != api.ErrSize {
				t.Errorf("Make(%d, %d) = %d, want ErrSize", base, cells, e)
			}
			for _, n := range programsOf(m) {
				if n.p.Tag != 0 || len(n.p.Code) != 0 {
					t.Errorf("Make(%d, %d): %s is %v, want none", base, cells, n.name, n.p)
				}
			}
		}
	}
}

// P20.2: wherever a tree may lie, all seven programs may be, with their tags; and the same base and cells give the same.
func TestMakeEverywhere(t *testing.T) {
	for cells := 7; cells <= 256; cells++ {
		for base := range 257 - cells {
			if cells > 24 && base%19 != 0 && base+cells != 256 {
				continue
			}
			what := fmt.Sprintf("Make(%d, %d)", base, cells)
			again := programsOf(mustMake(t, base, cells))
			for i, n := range programsOf(mustMake(t, base, cells)) {
				if e := code.Check(n.p); e != api.OK || n.p.Tag != n.tag {
					t.Errorf("%s: %s: %d, the tag %d", what, n.name, e, n.p.Tag)
				}
				if !code.Same(n.p, again[i].p) {
					t.Errorf("%s: %s is not the same again", what, n.name)
				}
			}
		}
	}
}

// R4: no two programs share memory, spare room neither, nor do those of two calls.
func TestMakeMemory(t *testing.T) {
	all := append(programsOf(mustMake(t, 3, 22)), programsOf(mustMake(t, 3, 22))...)
	var texts []string
	for _, n := range all {
		s, _ := code.Print(n.p)
		texts = append(texts, s)
	}
	for i, n := range all {
		whole := n.p.Code[:cap(n.p.Code)]
		kept := slices.Clone(whole)
		for j := range whole {
			whole[j] = api.Instr{Op: api.OpAbort, N: 99}
		}
		for j, other := range all {
			if s, _ := code.Print(other.p); i != j && s != texts[j] {
				t.Fatalf("program %d is another one, once program %d is written over", j, i)
			}
		}
		copy(whole, kept)
	}
	fresh := programsOf(mustMake(t, 3, 22))
	for i := range all[:7] {
		clear(all[i].p.Code)
		if s, _ := code.Print(fresh[i].p); s != texts[i] {
			t.Errorf("%s hangs on what was done to an earlier one", all[i].name)
		}
	}
}

// The one NaN, and what is told of numbers by their bits.
var (
	nan   = number.Of(0x7ff8000000000000)
	less0 = math.Copysign(0, -1)
	inf   = math.Inf(1)
)

// sorted are numbers of every kind in the order of numbers.
var sorted = []float64{
	-inf, -math.MaxFloat64, -1e9, -2, -1.5, -1, -0.25, -math.SmallestNonzeroFloat64,
	less0, 0, math.SmallestNonzeroFloat64, 0.25, 1, 2, 65536, 1 << 53, math.MaxFloat64, inf, nan,
}

// ahead tells whether a stands ahead of b in the order of numbers, by DOC.md's words.
func ahead(a, b float64) bool {
	switch {
	case a != a:
		return false
	case b != b:
		return true
	case a == 0 && b == 0:
		return math.Signbit(a) && !math.Signbit(b)
	}
	return a < b
}

func same(a, b float64) bool {
	return math.Float64bits(a) == math.Float64bits(b) || a != a && b != b
}

func sameAll(a, b []float64) bool {
	return slices.EqualFunc(a, b, func(x, y float64) bool { return math.Float64bits(x) == math.Float64bits(y) })
}
