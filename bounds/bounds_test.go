package bounds_test

import (
	"fmt"
	"math"
	"testing"

	"beadle/api"
	"beadle/bounds"
)

// chapters is the config of the chapter's examples, with the bounds 86 and 119.
func chapters() api.Config { return api.Config{Cells: 1, Threads: 2, Fuel: 20, Writes: 1} }

// readerOf and writerOf are the bounds in the chapter's words, with its numbers written out.
func readerOf(c api.Config) int { return c.Fuel*4 + 6 }

func writerOf(c api.Config) int { return c.Fuel*1 + readerOf(c) + c.Threads + 3*c.Writes + 8 }

// rule is a row of numbers that looks as if thrown.
type rule uint64

func (r *rule) below(n int) int {
	*r = *r*6364136223846793005 + 1442695040888963407
	return int(uint64(*r>>33) % uint64(n))
}

func wantBounds(t *testing.T, c api.Config, reader, writer int) {
	t.Helper()
	if n, e := bounds.Reader(c); n != reader || e != api.OK {
		t.Errorf("Reader of %+v: %d, %d, want %d", c, n, e, reader)
	}
	if n, e := bounds.Writer(c); n != writer || e != api.OK {
		t.Errorf("Writer of %+v: %d, %d, want %d", c, n, e, writer)
	}
}

// wantNoBounds: of such a config nothing is told, whatever deeds there are.
func wantNoBounds(t *testing.T, c api.Config) {
	t.Helper()
	if n, e := bounds.Reader(c); n != 0 || e != api.ErrArg {
		t.Errorf("Reader of %+v: %d, %d, want ErrArg", c, n, e)
	}
	if n, e := bounds.Writer(c); n != 0 || e != api.ErrArg {
		t.Errorf("Writer of %+v: %d, %d, want ErrArg", c, n, e)
	}
	for what, l := range map[string][]api.Deed{
		"none":             nil,
		"one in time":      {{Tag: api.Reads, Steps: 1}},
		"one that is late": {{}, {Tag: api.Reads, Steps: most}},
		"one that may not": {{Steps: -1}},
		"both":             {{Tag: api.Reads, Steps: most}, {To: most + 1}},
	} {
		if n, e := bounds.Late(c, l); n != 0 || e != api.ErrArg {
			t.Errorf("Late of %+v, deeds: %s: %d, %d, want ErrArg", c, what, n, e)
		}
	}
}

// fields is where a config's numbers stand, each with its limit.
func fields(c *api.Config) []struct {
	name string
	n    *int
	most int
} {
	return []struct {
		name string
		n    *int
		most int
	}{{"Cells", &c.Cells, 256}, {"Threads", &c.Threads, 8}, {"Fuel", &c.Fuel, 1024}, {"Writes", &c.Writes, 32}}
}

// The chapter's examples of bounds.
func TestExamples(t *testing.T) {
	wantBounds(t, chapters(), 86, 119)
}

// P18.1: the least and the greatest config, and those with one field of the other kind.
func TestLeastAndGreatest(t *testing.T) {
	wantBounds(t, api.Config{Cells: 1, Threads: 1, Fuel: 1, Writes: 1}, 10, 1+10+1+3+8)
	wantBounds(t, api.Config{Cells: 256, Threads: 8, Fuel: 1024, Writes: 32}, 4102, 1024+4102+8+96+8)
	for greatest := range 16 {
		c := api.Config{Cells: 1, Threads: 1, Fuel: 1, Writes: 1}
		for i, f := range fields(&c) {
			if greatest>>i&1 == 1 {
				*f.n = f.most
			}
		}
		wantBounds(t, c, readerOf(c), writerOf(c))
	}
}

// P18.1: each number that a field may have, beside the others as they are in the examples: Cells counts for neither, Fuel alone for a reader.
func TestEachField(t *testing.T) {
	for i := range 4 {
		c := chapters()
		f := fields(&c)[i]
		for n := 1; n <= f.most; n++ {
			*f.n = n
			reader, writer := 86, 119
			switch f.name {
			case "Threads":
				writer += n - 2
			case "Fuel":
				reader += 4 * (n - 20)
				writer += 5 * (n - 20)
			case "Writes":
				writer += 3 * (n - 1)
			}
			wantBounds(t, c, reader, writer)
		}
	}
}

// P18.1: any configs that may be.
func TestAnyConfigs(t *testing.T) {
	by := rule(3)
	for range 20000 {
		var c api.Config
		for _, f := range fields(&c) {
			*f.n = 1 + by.below(f.most)
		}
		wantBounds(t, c, readerOf(c), writerOf(c))
	}
}

// P18.1, P18.2: a field that may not be, of each of them, beside others at either limit.
func TestOneFieldThatMayNotBe(t *testing.T) {
	for i := range 4 {
		for _, others := range []api.Config{chapters(), {Cells: 1, Threads: 1, Fuel: 1, Writes: 1}, {Cells: 256, Threads: 8, Fuel: 1024, Writes: 32}} {
			c := others
			f := fields(&c)[i]
			for _, n := range []int{math.MinInt, math.MinInt + 1, -f.most, -2, -1, 0, f.most + 1, f.most + 2, 2 * f.most, 1 << 32, 1<<32 + 1, most, math.MaxInt - 1, math.MaxInt} {
				*f.n = n
				wantNoBounds(t, c)
			}
		}
	}
}

// P18.1, P18.2: several fields that may not be, together: all that there are of them.
func TestFieldsThatMayNotBeTogether(t *testing.T) {
	for wrong := 1; wrong < 16; wrong++ {
		for way := range 16 {
			c := chapters()
			for i, f := range fields(&c) {
				if wrong>>i&1 == 1 {
					*f.n = []int{0, f.most + 1}[way>>i&1]
				}
			}
			wantNoBounds(t, c)
		}
	}
	wantNoBounds(t, api.Config{})
}

// R5: what was asked ahead changes nothing.
func TestNothingIsKept(t *testing.T) {
	for i := range 3 {
		wantNoBounds(t, api.Config{Cells: 1, Threads: 2, Fuel: 0, Writes: 1})
		wantBounds(t, chapters(), 86, 119)
		bounds.Late(chapters(), []api.Deed{{Steps: 87}})
		bounds.Late(chapters(), []api.Deed{{Steps: -1}})
		wantLate(t, fmt.Sprint("asked ", i), chapters(), []api.Deed{{Steps: 86}}, -1)
	}
}
