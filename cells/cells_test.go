package cells_test

import (
	"fmt"
	"math"
	"slices"
	"testing"

	"beadle/api"
	"beadle/cells"
	"beadle/mem"
)

const oneNaN = 0x7ff8000000000000

// nans are NaNs of many bits: quiet, signalling, of both signs, at the edges of what is one.
var nans = []uint64{
	0x7ff0000000000001, 0x7ff7ffffffffffff, 0x7ff8000000000000, 0x7ff8000000000001, 0x7fffffffffffffff,
	0xfff0000000000001, 0xfff7ffffffffffff, 0xfff8000000000000, 0xfff8000000000001, 0xffffffffffffffff,
}

// plain are bits that no fixing may touch: the noughts, the infinities and what stands beside them, ordinary numbers.
var plain = []uint64{
	0x0000000000000000, 0x8000000000000000, 0x0000000000000001, 0x8000000000000001,
	0x000fffffffffffff, 0x0010000000000000, 0x7fefffffffffffff, 0xffefffffffffffff,
	0x7ff0000000000000, 0xfff0000000000000, 0x3ff0000000000000, 0xbff0000000000000, 0x4008000000000000, 0x400921fb54442d18,
}

// odd are all these bits.
func odd() []uint64 { return slices.Concat(nans, plain) }

// fixed are the bits that a number of these bits is fixed to.
func fixed(bits uint64) uint64 {
	if bits<<1 > 0x7ff0000000000000<<1 {
		return oneNaN
	}
	return bits
}

var (
	of     = math.Float64frombits
	bitsOf = math.Float64bits
	minus0 = math.Copysign(0, -1)
)

// notCells are cells that may not be, some of which a narrower whole number would take for one that may be.
var notCells = []int{
	-1, -2, -255, -256, math.MinInt8, math.MinInt32, math.MinInt, math.MinInt + 1, math.MinInt / 3,
	256, 257, 511, 512, 1 << 16, 1 << 32, 1<<32 + 1, 1 << 62, math.MaxInt / 3, math.MaxInt/3 + 1, math.MaxInt - 1, math.MaxInt,
}

// notBases are numbers of words at which no cells can begin.
var notBases = []int{-1, -2, -3, -765, -4096, math.MinInt, math.MinInt + 1, 4097, 4098, 1 << 32, math.MaxInt - 2, math.MaxInt - 1, math.MaxInt}

func at(base int) api.Plan { return api.Plan{Cells: base} }

// filled is a memory whose words are all unlike, none of them 0, and not open.
func filled(t *testing.T, words int) *mem.Mem {
	t.Helper()
	m, e := mem.New(words)
	if e != api.OK {
		t.Fatalf("New(%d): %d", words, e)
	}
	for i := range words {
		m.Poke(i, uint64(1000+i))
	}
	return m
}

// holding is a memory with these words.
func holding(t *testing.T, words ...uint64) *mem.Mem {
	t.Helper()
	m := filled(t, len(words))
	for i, bits := range words {
		m.Poke(i, bits)
	}
	return m
}

func isOpen(m *mem.Mem) bool {
	_, e := m.Clone().Load(0)
	return e == api.OK
}

func wantErrno(t *testing.T, what string, got, want api.Errno) {
	t.Helper()
	if got != want {
		t.Errorf("%s: %d, want %d", what, got, want)
	}
}

// wantMem holds all of a memory against what it should be.
func wantMem(t *testing.T, what string, m *mem.Mem, words []uint64, open bool, count int) {
	t.Helper()
	if all := m.All(); !slices.Equal(all, words) {
		t.Errorf("%s: the words are %x, want %x", what, all, words)
	}
	if isOpen(m) != open || m.Count() != count {
		t.Errorf("%s: open %v, %d accesses, want %v, %d", what, isOpen(m), m.Count(), open, count)
	}
}

// wantNumber: the number has just these bits.
func wantNumber(t *testing.T, what string, x float64, want uint64) {
	t.Helper()
	if bitsOf(x) != want {
		t.Errorf("%s: %x, want %x", what, bitsOf(x), want)
	}
}

func wantPeek(t *testing.T, what string, m *mem.Mem, p api.Plan, cell int, want api.Triple) {
	t.Helper()
	got, e := cells.Peek(m, p, cell)
	wantErrno(t, what+": Peek", e, api.OK)
	if got != want {
		t.Errorf("%s: Peek tells %x, want %x", what, got, want)
	}
}

// spoil writes over a list and the spare room behind it.
func spoil(l []float64) {
	l = l[:cap(l)]
	for i := range l {
		l[i] = -99
	}
}

// numbered are numbers that are all unlike.
func numbered(many int) []float64 {
	l := make([]float64, many)
	for i := range l {
		l[i] = float64(i) + 0.5
	}
	return l
}

// begun are the words behind a Start that was answered OK.
func begun(words []uint64, base int, l []float64) []uint64 {
	words = slices.Clone(words)
	for i, x := range l {
		copy(words[base+3*i:], []uint64{0, bitsOf(x), 0})
	}
	return words
}

// P11.1: few numbers and many, at each edge of what a memory has: just the words, and more ahead of them and behind them.
func TestStart(t *testing.T) {
	for _, many := range []int{0, 1, 2, 3, 7, 255, 256} {
		for _, ahead := range []int{0, 1, 2, 3, 11} {
			for _, behind := range []int{0, 1, 2, 3, 30} {
				if ahead+3*many+behind == 0 {
					continue
				}
				for _, open := range []bool{false, true} {
					what := fmt.Sprint(many, " numbers, ", ahead, " words ahead, ", behind, " behind, open ", open)
					m, l := filled(t, ahead+3*many+behind), numbered(many)
					if open {
						m.Open()
					}
					want := begun(m.All(), ahead, l)
					wantErrno(t, what, cells.Start(m, at(ahead), l), api.OK)
					wantMem(t, what, m, want, open, 0)
				}
			}
		}
	}
}

// P11.1: at the greatest memory's end.
func TestStartAtTheEnd(t *testing.T) {
	m := filled(t, api.MaxWords)
	l := numbered(api.MaxCells)
	want := begun(m.All(), api.MaxWords-768, l)
	wantErrno(t, "just in", cells.Start(m, at(api.MaxWords-768), l), api.OK)
	wantMem(t, "just in", m, want, false, 0)
	for _, base := range []int{api.MaxWords - 767, api.MaxWords - 766, api.MaxWords - 765, api.MaxWords - 3, api.MaxWords} {
		wantErrno(t, fmt.Sprint("at ", base), cells.Start(m, at(base), l), api.ErrPlace)
		wantMem(t, fmt.Sprint("at ", base), m, want, false, 0)
	}
	want = begun(want, api.MaxWords-3, l[:1])
	wantErrno(t, "one at the end", cells.Start(m, at(api.MaxWords-3), l[:1]), api.OK)
	wantMem(t, "one at the end", m, want, false, 0)
}

// P11.1: words that are not there: one, two, three and many fewer than the cells have; nothing has changed.
func TestStartOfTooFewWords(t *testing.T) {
	for _, many := range []int{1, 2, 3, 100, 256} {
		for _, ahead := range []int{0, 1, 5} {
			for _, fewer := range []int{1, 2, 3, 4, 3 * many, 3*many + ahead - 1} {
				words := ahead + 3*many - fewer
				if words < 1 {
					continue
				}
				what := fmt.Sprint(many, " numbers at ", ahead, " of ", words, " words")
				m := filled(t, words)
				want := m.All()
				wantErrno(t, what, cells.Start(m, at(ahead), numbered(many)), api.ErrPlace)
				wantMem(t, what, m, want, false, 0)
				m.Open()
				wantErrno(t, what, cells.Start(m, at(ahead), numbered(many)), api.ErrPlace)
				wantMem(t, what, m, want, true, 0)
			}
		}
	}
}

// P11.1: cells that begin nowhere. No cells need no words, wherever they begin.
func TestStartAtNoBase(t *testing.T) {
	for _, base := range append(slices.Clone(notBases), api.MaxWords) {
		for _, many := range []int{1, 2, 256} {
			what := fmt.Sprint(many, " numbers at ", base)
			m := filled(t, api.MaxWords)
			want := m.All()
			wantErrno(t, what, cells.Start(m, at(base), numbered(many)), api.ErrPlace)
			wantMem(t, what, m, want, false, 0)
		}
		m := filled(t, 2)
		for _, l := range [][]float64{nil, {}, make([]float64, 0, 5)} {
			wantErrno(t, fmt.Sprint("none at ", base), cells.Start(m, at(base), l), api.OK)
			wantMem(t, fmt.Sprint("none at ", base), m, []uint64{1000, 1001}, false, 0)
		}
	}
}

// P11.1, R2: too many numbers; ErrLong is named ahead of ErrPlace.
func TestStartOfTooManyNumbers(t *testing.T) {
	for _, many := range []int{257, 258, 512, 1 << 16} {
		for _, words := range []int{1, 768, 771, api.MaxWords} {
			for _, base := range append([]int{0, 3, api.MaxWords}, notBases...) {
				what := fmt.Sprint(many, " numbers at ", base, " of ", words, " words")
				m := filled(t, words)
				want := m.All()
				wantErrno(t, what, cells.Start(m, at(base), numbered(many)), api.ErrLong)
				wantMem(t, what, m, want, false, 0)
			}
		}
	}
}

// P11.1: fewer numbers than before: the other cells stay as they were.
func TestStartAgain(t *testing.T) {
	m := holding(t, 7, 8, 9, 10, 11, 12)
	wantErrno(t, "one of two", cells.Start(m, at(0), []float64{3}), api.OK)
	wantMem(t, "one of two", m, []uint64{0, bitsOf(3), 0, 10, 11, 12}, false, 0)
	wantErrno(t, "none", cells.Start(m, at(0), nil), api.OK)
	wantMem(t, "none", m, []uint64{0, bitsOf(3), 0, 10, 11, 12}, false, 0)
	wantErrno(t, "the second as the first", cells.Start(m, at(3), []float64{4}), api.OK)
	wantMem(t, "the second as the first", m, []uint64{0, bitsOf(3), 0, 0, bitsOf(4), 0}, false, 0)
}

// P11.1, R6: each number is fixed.
func TestStartFixes(t *testing.T) {
	for _, bits := range odd() {
		m := filled(t, 6)
		wantErrno(t, "Start", cells.Start(m, at(0), []float64{1, of(bits)}), api.OK)
		wantMem(t, fmt.Sprintf("%x", bits), m, []uint64{0, bitsOf(1), 0, 0, fixed(bits), 0}, false, 0)
	}
}

// R4: the list is left as it was, with the spare room behind it, and is not kept.
func TestStartLeavesTheList(t *testing.T) {
	strange := of(nans[0])
	room := []float64{5, strange, minus0, 77, 78}
	m := filled(t, 9)
	wantErrno(t, "Start", cells.Start(m, at(0), room[:3]), api.OK)
	for i, want := range []uint64{bitsOf(5), nans[0], 1 << 63, bitsOf(77), bitsOf(78)} {
		wantNumber(t, fmt.Sprint("the list's ", i), room[i], want)
	}
	spoil(room)
	wantMem(t, "with the list spoilt", m, []uint64{0, bitsOf(5), 0, 0, oneNaN, 0, 0, 1 << 63, 0}, false, 0)
}

// P11.2: the words of each cell, whatever they are, at each beginning; with an access open and with none.
func TestPeek(t *testing.T) {
	for _, ahead := range []int{0, 1, 2, 11} {
		for _, many := range []int{1, 2, 256} {
			m := filled(t, ahead+3*many)
			words := m.All()
			for _, cell := range []int{0, many / 2, many - 1} {
				first := uint64(1000 + ahead + 3*cell)
				want := api.Triple{Version: first, Now: first + 1, Was: first + 2}
				wantPeek(t, "none open", m, at(ahead), cell, want)
				wantMem(t, "none open", m, words, false, 0)
				open := m.Clone()
				open.Open()
				wantPeek(t, "open", open, at(ahead), cell, want)
				wantMem(t, "open", open, words, true, 0)
			}
		}
	}
	m := filled(t, api.MaxWords)
	wantPeek(t, "at the end", m, at(api.MaxWords-3), 0, api.Triple{Version: 5093, Now: 5094, Was: 5095})
	wantPeek(t, "the last cell at the end", m, at(api.MaxWords-768), 255, api.Triple{Version: 5093, Now: 5094, Was: 5095})
}

// P11.2: words are told as they are: a NaN's bits too, and a version of any bits.
func TestPeekTellsBits(t *testing.T) {
	for _, bits := range append(odd(), 5, math.MaxUint64) {
		m := holding(t, bits, bits, bits)
		wantPeek(t, "the same thrice", m, at(0), 0, api.Triple{Version: bits, Now: bits, Was: bits})
	}
}

func wantNoPeek(t *testing.T, what string, m *mem.Mem, p api.Plan, cell int, want api.Errno) {
	t.Helper()
	words, open, count := m.All(), isOpen(m), m.Count()
	got, e := cells.Peek(m, p, cell)
	wantErrno(t, what+": Peek", e, want)
	if got != (api.Triple{}) {
		t.Errorf("%s: Peek tells %v", what, got)
	}
	wantMem(t, what+": Peek", m, words, open, count)
}

// wantNoNow: Now is refused, with nothing told and nothing changed.
func wantNoNow(t *testing.T, what string, m *mem.Mem, p api.Plan, cell int, want api.Errno) {
	t.Helper()
	words, open, count := m.All(), isOpen(m), m.Count()
	x, e := cells.Now(m, p, cell)
	wantErrno(t, what+": Now", e, want)
	wantNumber(t, what+": Now", x, 0)
	wantMem(t, what+": Now", m, words, open, count)
}

// P11.2, P11.3: cells that may not be: ErrCell ahead of ErrPlace and of ErrSpent.
func TestPeekAndNowOfNoCell(t *testing.T) {
	for _, cell := range notCells {
		for _, base := range append([]int{0, 1, 3, api.MaxWords - 3, api.MaxWords}, notBases...) {
			for _, words := range []int{1, 6, api.MaxWords} {
				what := fmt.Sprint("the cell ", cell, " at ", base, " of ", words)
				m := filled(t, words)
				wantNoPeek(t, what, m, at(base), cell, api.ErrCell)
				wantNoNow(t, what, m, at(base), cell, api.ErrCell)
				m.Open()
				wantNoPeek(t, what+", open", m, at(base), cell, api.ErrCell)
				wantNoNow(t, what+", open", m, at(base), cell, api.ErrCell)
			}
		}
	}
}

// P11.2, P11.3: cells that begin nowhere, even where a later cell's words would be there: ErrPlace ahead of ErrSpent.
func TestPeekAndNowAtNoBase(t *testing.T) {
	m := filled(t, api.MaxWords)
	open := m.Clone()
	open.Open()
	for _, base := range append(slices.Clone(notBases), api.MaxWords) {
		for _, cell := range []int{0, 1, 2, 100, 255} {
			what := fmt.Sprint("the cell ", cell, " at ", base)
			for _, one := range []*mem.Mem{m, open} {
				wantNoPeek(t, what, one, at(base), cell, api.ErrPlace)
				wantNoNow(t, what, one, at(base), cell, api.ErrPlace)
			}
		}
	}
}

// P11.2, P11.3: a memory that ends within a cell's words, just behind them, and ahead of them.
func TestPeekAndNowAtTheEnd(t *testing.T) {
	for _, base := range []int{0, 1, 5, 100} {
		for _, cell := range []int{0, 1, 2, 255} {
			for there := -2; there <= 4; there++ {
				words := base + 3*cell + there
				if words < 1 {
					continue
				}
				what := fmt.Sprint("the cell ", cell, " at ", base, ", ", there, " words of it")
				m := filled(t, words)
				m.Open()
				if there < 3 {
					wantNoPeek(t, what, m, at(base), cell, api.ErrPlace)
				} else {
					first := uint64(1000 + base + 3*cell)
					wantPeek(t, what, m, at(base), cell, api.Triple{Version: first, Now: first + 1, Was: first + 2})
				}
				if there < 2 {
					wantNoNow(t, what, m, at(base), cell, api.ErrPlace)
					continue
				}
				x, e := cells.Now(m, at(base), cell)
				wantErrno(t, what+": Now", e, api.OK)
				wantNumber(t, what+": Now", x, uint64(1000+base+3*cell+1))
				if m.Count() != 1 || isOpen(m) {
					t.Errorf("%s: Now left it open %v with %d accesses", what, isOpen(m), m.Count())
				}
				wantNoNow(t, what+", spent", m, at(base), cell, api.ErrSpent)
			}
		}
	}
}

// P11.3: no access open; then one for each Open.
func TestNowIsAnAccess(t *testing.T) {
	m := holding(t, 3, bitsOf(5), bitsOf(4), 9, bitsOf(6), bitsOf(8))
	words := m.All()
	for n := range 10 {
		wantNoNow(t, "none open", m, at(0), 1, api.ErrSpent)
		m.Open()
		x, e := cells.Now(m, at(0), 1)
		wantErrno(t, "open", e, api.OK)
		wantNumber(t, "open", x, bitsOf(6))
		wantMem(t, "behind", m, words, false, n+1)
	}
}

// P11.3, R6: the number of the word, fixed; the word stays.
func TestNowFixes(t *testing.T) {
	for _, bits := range odd() {
		m := holding(t, 1, bits, 2)
		m.Open()
		x, e := cells.Now(m, at(0), 0)
		wantErrno(t, "Now", e, api.OK)
		wantNumber(t, "Now", x, fixed(bits))
		wantMem(t, "Now", m, []uint64{1, bits, 2}, false, 1)
	}
}

// P11.2: At below the version, at it and above it, as far as a version goes.
func TestAt(t *testing.T) {
	edges := []uint64{0, 1, 2, 3, 1<<31 - 1, 1 << 31, 1 << 32, 1<<63 - 1, 1 << 63, 1<<63 + 1, math.MaxUint64 - 1, math.MaxUint64}
	for _, version := range edges {
		for _, stamp := range edges {
			x := api.Triple{Version: version, Now: bitsOf(7), Was: bitsOf(5)}
			want := bitsOf(7)
			if version > stamp {
				want = bitsOf(5)
			}
			wantNumber(t, fmt.Sprint("version ", version, ", stamp ", stamp), cells.At(x, stamp), want)
		}
	}
}

// P11.2, R6: At fixes.
func TestAtFixes(t *testing.T) {
	for _, bits := range odd() {
		wantNumber(t, "Now", cells.At(api.Triple{Version: 3, Now: bits, Was: 1}, 3), fixed(bits))
		wantNumber(t, "Was", cells.At(api.Triple{Version: 3, Now: 1, Was: bits}, 2), fixed(bits))
	}
}

// Of a plan Cells alone is looked at: what else stands in it changes nothing.
func TestOnlyCellsOfAPlan(t *testing.T) {
	for _, p := range []api.Plan{
		{Next: 3, Serving: 4, Stamp: 5, Census: 3, Cells: 3, Words: 1},
		{Next: -1, Serving: math.MinInt, Stamp: math.MaxInt, Census: 99999, Cells: 3, Words: -1},
		{Cells: 3, Words: math.MaxInt},
	} {
		m := filled(t, 6)
		wantErrno(t, "Start", cells.Start(m, p, []float64{5}), api.OK)
		wantMem(t, "Start", m, []uint64{1000, 1001, 1002, 0, bitsOf(5), 0}, false, 0)
		wantPeek(t, "of all the plan", m, p, 0, api.Triple{Now: bitsOf(5)})
		m.Open()
		x, e := cells.Now(m, p, 0)
		wantErrno(t, "Now", e, api.OK)
		wantNumber(t, "Now", x, bitsOf(5))
		wantSteps(t, "Write", m, cells.Write(p, 0, 1, 5, 7), false, false, true)
		r := cells.Read(p, 0, 1)
		wantSteps(t, "Read", m, r, false, false, true)
		wantRead(t, "Read", r, bitsOf(7), 3, false)
	}
}

// As mem.Place lays them: the cells of an engine lie just there.
func TestPlacedCells(t *testing.T) {
	c := api.Config{Cells: 256, Threads: 8, Fuel: 1, Writes: 1}
	p, e := mem.Place(c)
	wantErrno(t, "Place", e, api.OK)
	m := filled(t, p.Words)
	l := numbered(c.Cells)
	want := begun(m.All(), 11, l)
	wantErrno(t, "Start", cells.Start(m, p, l), api.OK)
	wantMem(t, "Start", m, want, false, 0)
	wantPeek(t, "the last cell", m, p, 255, api.Triple{Now: bitsOf(255.5)})
	wantErrno(t, "one more", cells.Start(m, p, numbered(257)), api.ErrLong)
}

// The chapter's examples.
func TestExamples(t *testing.T) {
	p := api.Plan{}
	m := filled(t, 6)
	wantErrno(t, "Start", cells.Start(m, p, []float64{5, minus0}), api.OK)
	wantPeek(t, "cell 1", m, p, 1, api.Triple{Now: 0x8000000000000000})

	r := cells.Read(p, 0, 0)
	wantSteps(t, "nobody beside it", m, r, false, false, true)
	wantRead(t, "nobody beside it", r, bitsOf(5), 3, false)

	r = cells.Read(p, 0, 0)
	wantSteps(t, "ahead of the write", m, r, false)
	wantSteps(t, "the write", m, cells.Write(p, 0, 1, 5, 7), false, false, true)
	wantSteps(t, "behind the write", m, r, false, false)
	wantRead(t, "torn", r, 0, 3, true)
	wantSteps(t, "the last of a torn one", m, r, true)
	wantRead(t, "at its end", r, bitsOf(5), 4, true)

	r = cells.Read(p, 0, 0)
	wantSteps(t, "the version is above the stamp", m, r, false, true)
	wantRead(t, "the version is above the stamp", r, bitsOf(5), 2, false)

	m.Open()
	wantNoStep(t, "over", m, r, api.ErrState)
	wantNoStep(t, "no cell", m, cells.Read(p, 256, 0), api.ErrCell)
	wantNoStep(t, "no words", m, cells.Read(p, 2, 0), api.ErrPlace)

	x := api.Triple{Version: 3, Now: 0x7ff0000000000000}
	wantNumber(t, "At 3", cells.At(x, 3), 0x7ff0000000000000)
	wantNumber(t, "At 2", cells.At(x, 2), 0)
	wantErrno(t, "Start of three", cells.Start(m, p, []float64{1, 2, 3}), api.ErrPlace)
}
