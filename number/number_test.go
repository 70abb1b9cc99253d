package number_test

import (
	"math"
	"slices"
	"testing"

	"beadle/api"
	"beadle/number"
)

const oneNaN = 0x7ff8000000000000

var (
	minus0   = math.Copysign(0, -1)
	inf      = math.Inf(1)
	theNaN   = math.Float64frombits(oneNaN)
	greatest = math.MaxFloat64
	tiniest  = math.SmallestNonzeroFloat64
	normal   = math.Float64frombits(0x0010000000000000)
)

// nanBits are several NaNs: quiet and signalling ones, of both signs, the first and the last of each.
var nanBits = []uint64{
	oneNaN, 0x7ff8000000000001, 0x7ff0000000000001, 0x7ff7ffffffffffff, 0x7fffffffffffffff,
	0xfff0000000000001, 0xfff0000000000007, 0xfff7ffffffffffff, 0xfff8000000000000, 0xfff8000000000001, 0xffffffffffffffff,
}

// inOrder stands in the order of numbers, no two the same.
func inOrder() []float64 {
	above := []float64{
		tiniest, 2 * tiniest, math.Nextafter(normal, 0), normal, 1e-300, 0.1, math.Nextafter(0.5, 0), 0.5, math.Nextafter(1, 0), 1,
		math.Nextafter(1, 2), 1.5, 2, 2.5, 3, 7, 1000.25, 65535, 1 << 31, 1<<32 + 1, 1<<52 - 0.5, 1<<52 + 1, 1<<53 - 1, 1 << 53, 1<<53 + 2,
		1 << 62, math.Nextafter(1<<63, 0), 1 << 63, 1 << 64, 1e300, math.Nextafter(greatest, 0), greatest, inf,
	}
	var l []float64
	for _, x := range slices.Backward(above) {
		l = append(l, -x)
	}
	l = append(l, minus0, 0)
	l = append(l, above...)
	return append(l, theNaN)
}

// pool is inOrder, NaNs of other bits, and numbers with bits of all kinds.
func pool() []float64 {
	l := inOrder()
	for _, b := range nanBits {
		l = append(l, math.Float64frombits(b))
	}
	b := uint64(1)
	for range 60 {
		b = b*6364136223846793005 + 1442695040888963407
		l = append(l, math.Float64frombits(b))
	}
	return l
}

func wantBits(t *testing.T, got, want float64, what ...any) {
	t.Helper()
	if math.Float64bits(got) != math.Float64bits(want) {
		t.Errorf("%v: %v (%016x), want %v (%016x)", what, got, math.Float64bits(got), want, math.Float64bits(want))
	}
}

func isNaNBits(b uint64) bool { return b&^(1<<63) > 0x7ff0000000000000 }

// P1.1
func TestFixLeavesOneNaN(t *testing.T) {
	for _, b := range nanBits {
		x := math.Float64frombits(b)
		if got := math.Float64bits(number.Fix(x)); got != oneNaN {
			t.Errorf("Fix of NaN %016x has the bits %016x", b, got)
		}
		if got := number.Bits(x); got != oneNaN {
			t.Errorf("Bits of NaN %016x: %016x", b, got)
		}
		if got := math.Float64bits(number.Of(b)); got != oneNaN {
			t.Errorf("Of(%016x) has the bits %016x", b, got)
		}
	}
}

// P1.1
func TestFixLeavesAllElse(t *testing.T) {
	for _, x := range pool() {
		b := math.Float64bits(x)
		if isNaNBits(b) {
			continue
		}
		wantBits(t, number.Fix(x), x, "Fix")
		wantBits(t, number.Of(b), x, "Of")
		if got := number.Bits(x); got != b {
			t.Errorf("Bits(%v) = %016x, want %016x", x, got, b)
		}
	}
}

// P1.1
func TestBitsByExamples(t *testing.T) {
	for _, c := range []struct {
		x float64
		b uint64
	}{
		{1, 0x3ff0000000000000}, {0, 0}, {minus0, 0x8000000000000000}, {-2, 0xc000000000000000},
		{inf, 0x7ff0000000000000}, {-inf, 0xfff0000000000000}, {tiniest, 1}, {greatest, 0x7fefffffffffffff},
	} {
		if got := number.Bits(c.x); got != c.b {
			t.Errorf("Bits(%v) = %016x, want %016x", c.x, got, c.b)
		}
		wantBits(t, number.Of(c.b), c.x, "Of", c.b)
	}
}

// P1.2, P1.6: the same, ahead, behind, all pairs.
func TestCompareAndSameAlongTheOrder(t *testing.T) {
	l := inOrder()
	for i, x := range l {
		for k, y := range l {
			want := 0
			switch {
			case i < k:
				want = -1
			case i > k:
				want = 1
			}
			if got := number.Compare(x, y); got != want {
				t.Errorf("Compare(%v, %v) = %d, want %d", x, y, got, want)
			}
			if got := number.Same(x, y); got != (i == k) {
				t.Errorf("Same(%v, %v) = %t", x, y, got)
			}
		}
	}
}

// P1.2
func TestAllNaNsAreTheSame(t *testing.T) {
	for _, a := range nanBits {
		for _, b := range nanBits {
			x, y := math.Float64frombits(a), math.Float64frombits(b)
			if !number.Same(x, y) || number.Compare(x, y) != 0 {
				t.Errorf("NaNs %016x and %016x: Same %t, Compare %d", a, b, number.Same(x, y), number.Compare(x, y))
			}
		}
		x := math.Float64frombits(a)
		if number.Same(x, inf) || number.Compare(x, inf) != 1 || number.Compare(-inf, x) != -1 {
			t.Errorf("NaN %016x stands wrong beside infinities", a)
		}
	}
}

// P1.2: the examples of the chapter.
func TestCompareByExamples(t *testing.T) {
	if number.Same(0, minus0) {
		t.Error("Same(+0, -0)")
	}
	for _, c := range []struct {
		a, b float64
		want int
	}{{minus0, 0, -1}, {theNaN, inf, 1}, {theNaN, theNaN, 0}, {-1, -inf, 1}} {
		if got := number.Compare(c.a, c.b); got != c.want {
			t.Errorf("Compare(%v, %v) = %d, want %d", c.a, c.b, got, c.want)
		}
	}
}

// P1.3
func TestTrue(t *testing.T) {
	for _, x := range pool() {
		b := math.Float64bits(x)
		want := b<<1 != 0 && !isNaNBits(b)
		if got := number.True(x); got != want {
			t.Errorf("True(%v) = %t", x, got)
		}
	}
}

// P1.3
func TestIndexOfWholeNumbers(t *testing.T) {
	for n := range 5 {
		for i := -2; i < 8; i++ {
			got, e := number.Index(float64(i), n)
			if i >= 0 && i < n {
				wantIndex(t, float64(i), n, got, i, e, api.OK)
			} else {
				wantIndex(t, float64(i), n, got, 0, e, api.ErrIndex)
			}
		}
	}
}

func wantIndex(t *testing.T, x float64, n, got, want int, e, wantE api.Errno) {
	t.Helper()
	if got != want || e != wantE {
		t.Errorf("Index(%v, %d) = %d, %d, want %d, %d", x, n, got, e, want, wantE)
	}
}

// P1.3: noughts, and bounds that no float is.
func TestIndexAtEdges(t *testing.T) {
	last := math.Nextafter(1<<63, 0)
	for _, c := range []struct {
		x    float64
		n, i int
	}{
		{minus0, 1, 0}, {minus0, math.MaxInt, 0}, {0, 1, 0}, {2, 3, 2},
		{1 << 53, 1<<53 + 1, 1 << 53}, {1<<53 + 2, 1<<53 + 3, 1<<53 + 2}, {1 << 62, 1<<62 + 1, 1 << 62},
		{last, math.MaxInt, 1<<63 - 1024}, {last, 1<<63 - 1023, 1<<63 - 1024},
	} {
		i, e := number.Index(c.x, c.n)
		wantIndex(t, c.x, c.n, i, c.i, e, api.OK)
	}
}

// P1.3: numbers that are no index.
func TestIndexRefuses(t *testing.T) {
	last := math.Nextafter(1<<63, 0)
	type pair struct {
		x float64
		n int
	}
	l := []pair{
		{3, 3}, {0.5, 3}, {theNaN, 9}, {0, 0}, {minus0, 0}, {0, -1}, {-1, -5}, {-1, 9}, {-tiniest, 9}, {tiniest, 9}, {math.Nextafter(1, 0), 9},
		{math.Nextafter(3, 0), 9}, {inf, math.MaxInt}, {-inf, math.MaxInt}, {1 << 63, math.MaxInt}, {-1 << 63, math.MaxInt}, {-1 << 63, math.MinInt},
		{1 << 64, math.MaxInt}, {greatest, math.MaxInt}, {-greatest, math.MaxInt}, {0, math.MinInt}, {1, math.MinInt},
		{1 << 53, 1 << 53}, {1<<53 + 2, 1<<53 + 1}, {last, 1<<63 - 1024}, {1 << 62, 1 << 62}, {1<<52 - 0.5, math.MaxInt},
	}
	for _, b := range nanBits {
		l = append(l, pair{math.Float64frombits(b), math.MaxInt})
	}
	for _, c := range l {
		i, e := number.Index(c.x, c.n)
		wantIndex(t, c.x, c.n, i, 0, e, api.ErrIndex)
	}
}

// P1.6
func TestBitsAndOfUndoEachOther(t *testing.T) {
	for _, x := range pool() {
		if !number.Same(number.Of(number.Bits(x)), x) {
			t.Errorf("Of(Bits(%v)) is another", x)
		}
		b := math.Float64bits(x)
		want := b
		if isNaNBits(b) {
			want = oneNaN
		}
		if got := number.Bits(number.Of(b)); got != want {
			t.Errorf("Bits(Of(%016x)) = %016x", b, got)
		}
	}
}

// P1.6: an order; the first, the last; 0 just for the same; by value where values differ.
func TestCompareIsAnOrder(t *testing.T) {
	l := pool()
	for _, x := range l {
		if number.Compare(-inf, x) > 0 || number.Compare(x, theNaN) > 0 {
			t.Errorf("%v stands ahead of -Inf or behind NaN", x)
		}
		for _, y := range l {
			c := number.Compare(x, y)
			if c != -number.Compare(y, x) || c < -1 || c > 1 {
				t.Errorf("Compare(%v, %v) = %d, the other way round %d", x, y, c, number.Compare(y, x))
			}
			if (c == 0) != number.Same(x, y) {
				t.Errorf("Compare(%v, %v) = %d, Same %t", x, y, c, number.Same(x, y))
			}
			if x < y && c != -1 || x > y && c != 1 {
				t.Errorf("Compare(%v, %v) = %d, not by value", x, y, c)
			}
		}
	}
}

// P1.6: what stands ahead of one that stands ahead of a third stands ahead of that.
func TestCompareGoesOn(t *testing.T) {
	l := pool()
	slices.SortFunc(l, number.Compare)
	for i := range l {
		for k := i; k < len(l); k++ {
			if number.Compare(l[i], l[k]) > 0 {
				t.Errorf("%v stands behind %v", l[i], l[k])
			}
		}
	}
}
