package buffer_test

import (
	"fmt"
	"math"
	"slices"
	"testing"

	"beadle/api"
	"beadle/buffer"
)

const (
	oneNaN = 0x7ff8000000000000
	minus0 = 0x8000000000000000
)

// nans are NaNs of many bits: quiet, signalling, of both signs, at the edges of what is one.
var nans = []uint64{
	0x7ff0000000000001, 0x7ff7ffffffffffff, 0x7ff8000000000000, 0x7ff8000000000001, 0x7fffffffffffffff,
	0xfff0000000000001, 0xfff7ffffffffffff, 0xfff8000000000000, 0xfff8000000000001, 0xffffffffffffffff,
}

// plain are bits that no fixing may touch: the noughts, the infinities and what stands beside them, ordinary numbers.
var plain = []uint64{
	0x0000000000000000, 0x8000000000000000, 0x0000000000000001, 0x8000000000000001,
	0x000fffffffffffff, 0x0010000000000000, 0x7fefffffffffffff, 0xffefffffffffffff,
	0x7ff0000000000000, 0xfff0000000000000, 0x3ff0000000000000, 0xbff0000000000000, 0x4008000000000000, 0x400921fb54442d18,
}

// odd are cells that no memory has, and such as are one another's but for some bits.
var odd = []int{
	0, -1, 1, -2, 255, 256, 257, math.MaxInt, math.MinInt, math.MaxInt - 1, math.MinInt + 1,
	1 << 16, 1 << 31, 1<<31 - 1, -1 << 31, 1 << 32, 1<<32 + 1, -1 << 32, -1<<32 - 1, 1<<32 - 1, 1 << 52, 1 << 53, 1<<53 + 1, 1<<62 + 1, -1<<62 + 1,
}

// put is a cell and the bits of its number.
type put struct {
	cell int
	bits uint64
}

// right are the bits that a number's bits are fixed to.
func right(bits uint64) uint64 {
	if bits<<1 > 0x7ff0000000000000<<1 {
		return oneNaN
	}
	return bits
}

func made(t *testing.T, most int) *buffer.Buffer {
	t.Helper()
	b, e := buffer.New(most)
	if b == nil || e != api.OK {
		t.Fatalf("New of %d = %v, %d", most, b, e)
	}
	return b
}

// filled is a buffer of that bound with these writes, all of which must be taken.
func filled(t *testing.T, most int, puts ...put) *buffer.Buffer {
	t.Helper()
	b := made(t, most)
	for _, p := range puts {
		if _, e := b.Put(p.cell, math.Float64frombits(p.bits)); e != api.OK {
			t.Fatalf("Put of %v = %d", p, e)
		}
	}
	return b
}

// wantPut puts, and makes sure of what that answers.
func wantPut(t *testing.T, what string, b *buffer.Buffer, p put, first bool, e api.Errno) {
	t.Helper()
	if gotFirst, gotE := b.Put(p.cell, math.Float64frombits(p.bits)); gotFirst != first || gotE != e {
		t.Errorf("%s: Put of %d, %x = %t, %d, want %t, %d", what, p.cell, p.bits, gotFirst, gotE, first, e)
	}
}

// wantGet makes sure of a number bit by bit, and of whether it was written.
func wantGet(t *testing.T, what string, b *buffer.Buffer, cell int, bits uint64, written bool) {
	t.Helper()
	if x, got := b.Get(cell); math.Float64bits(x) != bits || got != written {
		t.Errorf("%s: Get of %d = %x, %t, want %x, %t", what, cell, math.Float64bits(x), got, bits, written)
	}
}

func putsOf(l []api.Touch) []put {
	var puts []put
	for _, touch := range l {
		puts = append(puts, put{touch.Cell, math.Float64bits(touch.X)})
	}
	return puts
}

// wantLike holds all that can be asked of a buffer without a change against what it should hold, in its order.
func wantLike(t *testing.T, what string, b *buffer.Buffer, puts ...put) {
	t.Helper()
	if all := putsOf(b.All()); !slices.Equal(all, puts) {
		t.Errorf("%s: All = %x, want %x", what, all, puts)
	}
	if b.Len() != len(puts) {
		t.Errorf("%s: Len = %d, want %d", what, b.Len(), len(puts))
	}
	for _, p := range puts {
		wantGet(t, what, b, p.cell, p.bits, true)
	}
	for _, cell := range slices.Concat(odd, []int{2, 3, 4, 7, 9, -3}) {
		if !slices.ContainsFunc(puts, func(p put) bool { return p.cell == cell }) {
			wantGet(t, what, b, cell, 0, false)
		}
	}
}

// row is so many writes of unlike cells, neither upwards nor downwards, each with a number of its own.
func row(n int) []put {
	var puts []put
	for i := range n {
		puts = append(puts, put{i*37%101 - 50, math.Float64bits(float64(i) + 0.25)})
	}
	return puts
}

// P7.1, P7.2, P7.5: every bound that may be takes just so many cells.
func TestEachBound(t *testing.T) {
	for most := 1; most <= 32; most++ {
		what := fmt.Sprint("bound ", most)
		b := made(t, most)
		wantLike(t, what, b)
		puts := row(most + 3)
		for i, p := range puts[:most] {
			wantPut(t, what, b, p, true, api.OK)
			wantLike(t, what, b, puts[:i+1]...)
		}
		for _, p := range puts[most:] {
			wantPut(t, what, b, p, false, api.ErrTooManyWrites)
			wantLike(t, what, b, puts[:most]...)
		}
	}
}

// P7.1: what may not be.
func TestNewRefused(t *testing.T) {
	for _, most := range []int{math.MinInt, -1 << 32, -33, -32, -1, 0, 33, 34, 64, 256, 1 << 31, 1 << 32, 1<<32 + 1, 1<<32 + 32, 1 << 62, math.MaxInt} {
		if b, e := buffer.New(most); b != nil || e != api.ErrArg {
			t.Errorf("New of %d = %v, %d", most, b, e)
		}
	}
}

// P7.2, P7.3, R6: a number is fixed by the first write and by a later one; what is no NaN keeps its bits.
func TestNumbersAreFixed(t *testing.T) {
	for _, bits := range slices.Concat(nans, plain) {
		what, fixed := fmt.Sprintf("%x", bits), right(bits)
		b := made(t, 2)
		wantPut(t, what, b, put{5, bits}, true, api.OK)
		wantLike(t, what, b, put{5, fixed})
		wantPut(t, what, b, put{6, 1}, true, api.OK)
		wantPut(t, what, b, put{6, bits}, false, api.OK)
		wantLike(t, what, b, put{5, fixed}, put{6, fixed})
		wantLike(t, what+" cloned", b.Clone(), put{5, fixed}, put{6, fixed})
	}
}

// P7.2: the last number holds, whatever stood there before: the noughts are two, and NaN is a number like others.
func TestWrittenAgain(t *testing.T) {
	for _, before := range slices.Concat(nans, plain) {
		for _, behind := range slices.Concat(nans, plain) {
			what := fmt.Sprintf("%x, then %x", before, behind)
			b := filled(t, 1, put{-1, before})
			wantPut(t, what, b, put{-1, behind}, false, api.OK)
			wantLike(t, what, b, put{-1, right(behind)})
		}
	}
}

// P7.2, P7.3: a cell is any int; none is taken for another, nor does one below 0 stand for anything.
func TestAnyCell(t *testing.T) {
	b := made(t, 32)
	var puts []put
	for i, cell := range odd {
		wantGet(t, "not yet", b, cell, 0, false)
		p := put{cell, math.Float64bits(float64(-i))}
		wantPut(t, "any cell", b, p, true, api.OK)
		puts = append(puts, p)
		wantLike(t, "any cell", b, puts...)
	}
	for i, cell := range odd {
		puts[i].bits = math.Float64bits(float64(i) + 0.5)
		wantPut(t, "any cell again", b, put{cell, puts[i].bits}, false, api.OK)
		wantLike(t, "any cell again", b, puts...)
	}
	for _, cell := range odd {
		one := filled(t, 1, put{cell, 3})
		wantLike(t, "one cell", one, put{cell, 3})
	}
}

// P7.2, P7.5: one cell more than may be changes nothing, whatever its number; those that were written may still be, and stay where they are.
func TestFull(t *testing.T) {
	for _, most := range []int{1, 2, 3, 31, 32} {
		puts := row(most)
		b := filled(t, most, puts...)
		for _, bits := range []uint64{0, minus0, oneNaN, 0xfff0000000000001, 7} {
			for _, cell := range []int{math.MinInt, 1000, math.MaxInt} {
				wantPut(t, "full", b, put{cell, bits}, false, api.ErrTooManyWrites)
				wantPut(t, "full", b, put{cell, bits}, false, api.ErrTooManyWrites)
			}
			wantLike(t, "full", b, puts...)
		}
		for i := range slices.Backward(puts) {
			puts[i].bits = uint64(i) + 90
			wantPut(t, "full", b, puts[i], false, api.OK)
			wantLike(t, "full, written again", b, puts...)
			wantPut(t, "full", b, put{1000, 1}, false, api.ErrTooManyWrites)
			wantLike(t, "full, refused behind that", b, puts...)
		}
	}
}

// P7.2: how often a cell is written counts for nothing.
func TestManyWritesOfFewCells(t *testing.T) {
	b := made(t, 2)
	wantPut(t, "few cells", b, put{4, 0}, true, api.OK)
	for i := range uint64(1000) {
		wantPut(t, "few cells", b, put{4, i}, false, api.OK)
	}
	wantPut(t, "few cells", b, put{3, 5}, true, api.OK)
	wantLike(t, "few cells", b, put{4, 999}, put{3, 5})
}

// P7.4, P7.5: the order is that of the first writes, however the cells are written behind that.
func TestOrder(t *testing.T) {
	cells := []int{3, -1, 7, 0}
	for _, again := range [][]int{{3}, {0}, {0, 7, -1, 3}, {-1, -1, 3, 0, -1}, {7, 7}} {
		puts := []put{{3, 1}, {-1, 2}, {7, 3}, {0, 4}}
		b := filled(t, 4, puts...)
		for i, cell := range again {
			p := put{cell, uint64(10 + i)}
			puts[slices.Index(cells, cell)] = p
			wantPut(t, "order", b, p, false, api.OK)
			wantLike(t, fmt.Sprint("order behind ", again[:i+1]), b, puts...)
		}
	}
}

// P7.4: behind Clear nothing was written; the bound is as it was, and the order begins anew.
func TestClear(t *testing.T) {
	for _, most := range []int{1, 2, 5, 32} {
		for written := range most + 1 {
			puts := row(written)
			b := filled(t, most, puts...)
			b.Clear()
			wantLike(t, "cleared", b)
			for _, p := range puts {
				wantGet(t, "cleared", b, p.cell, 0, false)
			}
			b.Clear()
			wantLike(t, "cleared twice", b)
			anew := row(most)
			slices.Reverse(anew)
			for i, p := range anew {
				wantPut(t, "behind Clear", b, p, true, api.OK)
				wantLike(t, "behind Clear", b, anew[:i+1]...)
			}
			wantPut(t, "behind Clear", b, put{1000, 1}, false, api.ErrTooManyWrites)
			wantLike(t, "full behind Clear", b, anew...)
		}
	}
}

// P7.4, R5: what is asked changes nothing.
func TestAskedTwice(t *testing.T) {
	b := filled(t, 3, put{1, oneNaN}, put{-9, minus0})
	for range 3 {
		wantLike(t, "asked", b, put{1, oneNaN}, put{-9, minus0})
		wantLike(t, "asked of a clone", b.Clone(), put{1, oneNaN}, put{-9, minus0})
	}
	wantPut(t, "behind what was asked", b, put{255, 2}, true, api.OK)
	wantPut(t, "behind what was asked", b, put{256, 2}, false, api.ErrTooManyWrites)
}

// spoil overwrites a list and its spare room.
func spoil(l []api.Touch) {
	l = l[:cap(l)]
	for i := range l {
		l[i] = api.Touch{Cell: 99, X: -99}
	}
}

// P7.4, R4: All is the caller's own, spare room too, and one answer is not another.
func TestAllIsTheCallers(t *testing.T) {
	puts := []put{{1, 2}, {3, 4}, {5, 6}}
	b := filled(t, 5, puts...)
	first, second, third := b.All(), b.All(), b.All()
	first = append(first[:1], api.Touch{Cell: 8, X: 8})
	spoil(first)
	wantLike(t, "All changed", b, puts...)
	spoil(second)
	wantLike(t, "All changed", b, puts...)
	wantPut(t, "behind All", b, put{3, 9}, false, api.OK)
	wantPut(t, "behind All", b, put{7, 10}, true, api.OK)
	b.Clear()
	wantPut(t, "behind All", b, put{11, 12}, true, api.OK)
	if !slices.Equal(putsOf(third), puts) {
		t.Errorf("All changed with another answer, or with the buffer: %x", putsOf(third))
	}
	empty := made(t, 2)
	spoil(empty.All())
	wantPut(t, "All of nothing changed", empty, put{1, 1}, true, api.OK)
	wantLike(t, "All of nothing changed", empty, put{1, 1})
}

// P7.4, R5: neither sees what is done to the other, by Put of an old cell or a new one, nor by Clear.
func TestClone(t *testing.T) {
	for _, most := range []int{2, 3, 8, 32} {
		for written := range most {
			puts := row(written)
			b := filled(t, most, puts...)
			c := b.Clone()
			if c == b {
				t.Fatal("Clone is the same object")
			}
			wantLike(t, "the clone", c, puts...)
			wantPut(t, "the one", b, put{500, 1}, true, api.OK)
			wantLike(t, "the clone behind a Put of the other", c, puts...)
			wantPut(t, "the clone", c, put{600, 2}, true, api.OK)
			wantLike(t, "the one behind a Put of the clone", b, append(slices.Clone(puts), put{500, 1})...)
			for _, p := range puts {
				wantPut(t, "the one", b, put{p.cell, 5}, false, api.OK)
			}
			wantLike(t, "the clone behind more Puts", c, append(slices.Clone(puts), put{600, 2})...)
			b.Clear()
			wantLike(t, "the clone behind a Clear of the other", c, append(slices.Clone(puts), put{600, 2})...)
			wantLike(t, "the one, cleared", b)
		}
	}
}

// P7.4: the clone's bound is the one's, full or not, cleared or not.
func TestCloneHasTheBound(t *testing.T) {
	for most := 1; most <= 32; most++ {
		puts := row(most + 1)
		full := filled(t, most, puts[:most]...).Clone()
		wantPut(t, "a full clone", full, puts[most], false, api.ErrTooManyWrites)
		wantPut(t, "a full clone", full, put{puts[0].cell, 1}, false, api.OK)
		empty := made(t, most).Clone().Clone()
		for _, p := range puts[:most] {
			wantPut(t, "an empty clone", empty, p, true, api.OK)
		}
		wantPut(t, "an empty clone", empty, puts[most], false, api.ErrTooManyWrites)
		wantLike(t, "an empty clone", empty, puts[:most]...)
		c := empty.Clone()
		c.Clear()
		wantLike(t, "the one behind a Clear of the clone", empty, puts[:most]...)
		for _, p := range puts[1:] {
			wantPut(t, "a cleared clone", c, p, true, api.OK)
		}
		wantPut(t, "a cleared clone", c, puts[0], false, api.ErrTooManyWrites)
	}
}

// R5: a buffer does not see what is done to another of the same making.
func TestTwoOfOneMaking(t *testing.T) {
	a, b := made(t, 1), made(t, 1)
	wantPut(t, "the one", a, put{1, 1}, true, api.OK)
	wantLike(t, "the other one", b)
	wantPut(t, "the other one", b, put{2, 2}, true, api.OK)
	wantLike(t, "the one", a, put{1, 1})
	wantLike(t, "a third one", made(t, 1))
}

// The examples of the chapter.
func TestExamples(t *testing.T) {
	b := made(t, 2)
	one, two := math.Float64bits(1), math.Float64bits(2)
	wantPut(t, "example", b, put{7, one}, true, api.OK)
	wantPut(t, "example", b, put{-3, two}, true, api.OK)
	wantPut(t, "example", b, put{7, minus0}, false, api.OK)
	wantPut(t, "example", b, put{9, one}, false, api.ErrTooManyWrites)
	wantGet(t, "example", b, 7, minus0, true)
	wantGet(t, "example", b, 9, 0, false)
	wantLike(t, "example", b, put{7, minus0}, put{-3, two})
	b.Clear()
	if b.Len() != 0 {
		t.Errorf("Len behind Clear = %d", b.Len())
	}
	wantPut(t, "example", b, put{9, one}, true, api.OK)
	wantLike(t, "example", b, put{9, one})
	for _, most := range []int{0, 33} {
		if b, e := buffer.New(most); b != nil || e != api.ErrArg {
			t.Errorf("New of %d = %v, %d", most, b, e)
		}
	}
}
