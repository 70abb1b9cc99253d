package table_test

import (
	"fmt"
	"math"
	"slices"
	"testing"

	"beadle/api"
	"beadle/code"
	"beadle/table"
)

// named is a program of a table with what it is called, and the tag that it must have.
type named struct {
	name string
	p    api.Program
	tag  int
}

func programsOf(m table.Table) []named {
	return []named{
		{"Get", m.Get, api.Reads}, {"Put", m.Put, api.Updates}, {"Del", m.Del, api.Updates}, {"Len", m.Len, api.Reads}, {"All", m.All, api.Reads},
	}
}

// mustMake is Make where there must be a table.
func mustMake(t *testing.T, base, cells int) table.Table {
	t.Helper()
	m, e := table.Make(base, cells)
	if e != api.OK {
		t.Fatalf("Make(%d, %d) = %d, want OK", base, cells, e)
	}
	return m
}

// odd are whole numbers at the edges of whatever an argument may be taken for.
var odd = []int{
	math.MinInt, math.MinInt + 1, math.MinInt + 10, math.MinInt + 11, math.MinInt + 255, math.MinInt + 256,
	-1 << 33, -1 << 32, -1<<32 + 11, -1 << 31, -1024, -257, -256, -246, -245, -56, -11, -8, -3, -1,
	0, 1, 2, 3, 7, 8, 9, 10, 11, 12, 13, 14, 55, 56, 57, 200, 244, 245, 246, 247, 254, 255, 256, 257, 1024,
	1 << 31, 1 << 32, 1<<32 + 11, 1 << 33, 1 << 62, 1<<62 + 128, math.MaxInt - 256, math.MaxInt - 11, math.MaxInt - 8, math.MaxInt - 1, math.MaxInt,
}

// P21.1: three cells for each pair beside eight, none below 11, sixteen pairs at most.
func TestRoom(t *testing.T) {
	edges := map[int]int{
		10: 0, 11: 1, 13: 1, 14: 2, 16: 2, 17: 3, 52: 14, 53: 15, 55: 15, 56: 16, 57: 16, 58: 16, 59: 16, 256: 16, 257: 16,
		0: 0, 1: 0, 3: 0, 7: 0, 8: 0, 9: 0, -1: 0, -11: 0, -56: 0, 1 << 40: 16, 1<<32 + 11: 16, math.MaxInt: 16,
		math.MinInt: 0, math.MinInt + 7: 0, math.MinInt + 8: 0, math.MinInt + 56: 0,
	}
	for cells, want := range edges {
		if n := table.Room(cells); n != want {
			t.Errorf("Room(%d) = %d, want %d", cells, n, want)
		}
	}
	for cells := -300; cells <= 600; cells++ {
		want := 0
		for want < 16 && 8+3*(want+1) <= cells {
			want++
		}
		if n := table.Room(cells); n != want {
			t.Errorf("Room(%d) = %d, want %d", cells, n, want)
		}
	}
}

// mayBe tells whether a table may lie there; the sum can't wrap, as it is made of what stands within the limits alone.
func mayBe(base, cells int) bool {
	return cells >= 11 && cells <= 256 && base >= 0 && base <= 256 && base+cells <= 256
}

// P21.2: ErrSize just where there is no room, or no memory has such cells; with it the table is empty.
func TestMakeRefuses(t *testing.T) {
	for _, base := range odd {
		for _, cells := range odd {
			m, e := table.Make(base, cells)
			if mayBe(base, cells) != (e == api.OK) {
				t.Errorf("Make(%d, %d) = %d", base, cells, e)
			}
			if e == api.OK {
				continue
			}
			if e != api.ErrSize {
				t.Errorf("Make(%d, %d) = %d, want ErrSize", base, cells, e)
			}
			for _, n := range programsOf(m) {
				if n.p.Tag != 0 || len(n.p.Code) != 0 {
					t.Errorf("Make(%d, %d): %s is %v, want none", base, cells, n.name, n.p)
				}
			}
		}
	}
}

// P21.2: wherever a table may lie, all five programs may be, with their tags; and the same base and cells give the same.
func TestMakeEverywhere(t *testing.T) {
	for cells := 11; cells <= 256; cells++ {
		for base := range 257 - cells {
			if cells > 28 && base%19 != 0 && base+cells != 256 {
				continue
			}
			what := fmt.Sprintf("Make(%d, %d)", base, cells)
			again := programsOf(mustMake(t, base, cells))
			for i, n := range programsOf(mustMake(t, base, cells)) {
				if e := code.Check(n.p); e != api.OK || n.p.Tag != n.tag {
					t.Errorf("%s: %s: %d, the tag %d", what, n.name, e, n.p.Tag)
				}
				if !code.Same(n.p, again[i].p) {
					t.Errorf("%s: %s is not the same again", what, n.name)
				}
			}
		}
	}
}

// R4: no two programs share memory, spare room neither, nor do those of two calls.
func TestMakeMemory(t *testing.T) {
	all := append(programsOf(mustMake(t, 3, 26)), programsOf(mustMake(t, 3, 26))...)
	var texts []string
	for _, n := range all {
		s, _ := code.Print(n.p)
		texts = append(texts, s)
	}
	for i, n := range all {
		whole := n.p.Code[:cap(n.p.Code)]
		kept := slices.Clone(whole)
		for j := range whole {
			whole[j] = api.Instr{Op: api.OpAbort, N: 99}
		}
		for j, other := range all {
			if s, _ := code.Print(other.p); i != j && s != texts[j] {
				t.Fatalf("program %d is another one, once program %d is written over", j, i)
			}
		}
		copy(whole, kept)
	}
	fresh := programsOf(mustMake(t, 3, 26))
	for i := range all[:5] {
		clear(all[i].p.Code)
		if s, _ := code.Print(fresh[i].p); s != texts[i] {
			t.Errorf("%s hangs on what was done to an earlier one", all[i].name)
		}
	}
}
