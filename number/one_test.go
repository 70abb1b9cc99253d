package number_test

import (
	"math"
	"math/big"
	"testing"

	"beadle/api"
	"beadle/number"
)

func one(t *testing.T, op int, x float64) float64 {
	t.Helper()
	y, e := number.One(op, x)
	if e != api.OK {
		t.Errorf("One(%d, %v): error %d", op, x, e)
	}
	return y
}

func finite(x float64) bool { return !math.IsNaN(x) && !math.IsInf(x, 0) }

// P1.4
func TestOneByExamples(t *testing.T) {
	for _, c := range []struct {
		op   int
		x, y float64
	}{
		{api.OneNeg, 0, minus0}, {api.OneNeg, minus0, 0}, {api.OneNeg, 3, -3}, {api.OneNeg, -inf, inf}, {api.OneNeg, greatest, -greatest}, {api.OneNeg, tiniest, -tiniest},
		{api.OneAbs, minus0, 0}, {api.OneAbs, 0, 0}, {api.OneAbs, -2, 2}, {api.OneAbs, 2, 2}, {api.OneAbs, -inf, inf}, {api.OneAbs, -tiniest, tiniest},
		{api.OneFloor, -0.5, -1}, {api.OneFloor, 0.5, 0}, {api.OneFloor, 2.5, 2}, {api.OneFloor, -2.5, -3}, {api.OneFloor, 7, 7}, {api.OneFloor, -7, -7},
		{api.OneFloor, 0, 0}, {api.OneFloor, minus0, minus0}, {api.OneFloor, inf, inf}, {api.OneFloor, -inf, -inf},
		{api.OneFloor, tiniest, 0}, {api.OneFloor, -tiniest, -1}, {api.OneFloor, greatest, greatest}, {api.OneFloor, -greatest, -greatest},
		{api.OneFloor, 1<<52 - 0.5, 1<<52 - 1}, {api.OneFloor, 0.5 - 1<<52, -1 << 52}, {api.OneFloor, math.Nextafter(1, 0), 0},
		{api.OneRoot, minus0, minus0}, {api.OneRoot, 0, 0}, {api.OneRoot, inf, inf}, {api.OneRoot, 9, 3}, {api.OneRoot, 2, 0x1.6a09e667f3bcdp+0}, {api.OneRoot, 0x1p-1074, 0x1p-537},
		{api.OneRoot, -1, theNaN}, {api.OneRoot, -tiniest, theNaN}, {api.OneRoot, -inf, theNaN}, {api.OneRoot, -greatest, theNaN},
		{api.OneNot, 0, 1}, {api.OneNot, minus0, 1}, {api.OneNot, theNaN, 1}, {api.OneNot, 1, 0}, {api.OneNot, -inf, 0}, {api.OneNot, tiniest, 0},
		{api.OneIsNaN, theNaN, 1}, {api.OneIsNaN, inf, 0}, {api.OneIsNaN, -inf, 0}, {api.OneIsNaN, 0, 0}, {api.OneIsNaN, minus0, 0}, {api.OneIsNaN, 1, 0},
		{api.OneSign, 3, 1}, {api.OneSign, -3, -1}, {api.OneSign, tiniest, 1}, {api.OneSign, -tiniest, -1}, {api.OneSign, inf, 1}, {api.OneSign, -inf, -1},
		{api.OneSign, 0, 0}, {api.OneSign, minus0, minus0}, {api.OneSign, theNaN, theNaN},
		{api.OneHash, 0, 0}, {api.OneHash, minus0, 32768}, {api.OneHash, 1, 42096}, {api.OneHash, theNaN, 45624},
	} {
		wantBits(t, one(t, c.op, c.x), c.y, "One", c.op, c.x)
	}
}

// P1.4: every NaN is taken for the one NaN, and answered as it.
func TestOneOfNaNs(t *testing.T) {
	want := map[int]float64{
		api.OneNeg: theNaN, api.OneAbs: theNaN, api.OneFloor: theNaN, api.OneRoot: theNaN,
		api.OneNot: 1, api.OneIsNaN: 1, api.OneSign: theNaN, api.OneHash: 45624,
	}
	for op, y := range want {
		for _, b := range nanBits {
			wantBits(t, one(t, op, math.Float64frombits(b)), y, "One", op, b)
		}
	}
}

// P1.4
func TestOneRefusesWhatIsNoOperation(t *testing.T) {
	for _, op := range []int{0, -1, -8, 9, 10, 99, math.MinInt, math.MaxInt, 1 << 32, 1<<32 + 1} {
		for _, x := range []float64{1, theNaN, inf} {
			y, e := number.One(op, x)
			if e != api.ErrArg {
				t.Errorf("One(%d, %v): error %d", op, x, e)
			}
			wantBits(t, y, 0, "One beside an error", op, x)
		}
	}
}

// P1.4: signs by bits.
func TestSigns(t *testing.T) {
	for _, x := range pool() {
		b := math.Float64bits(x)
		if isNaNBits(b) {
			continue
		}
		wantBits(t, one(t, api.OneNeg, x), math.Float64frombits(b^1<<63), "Neg", x)
		wantBits(t, one(t, api.OneAbs, x), math.Float64frombits(b&^(1<<63)), "Abs", x)
	}
}

// P1.4: a root is the nearest float, if x lies between the squares of the middles to its neighbours.
func TestRootIsTheNearest(t *testing.T) {
	for _, x := range pool() {
		if !finite(x) || x <= 0 {
			continue
		}
		r := one(t, api.OneRoot, x)
		if r <= 0 || !finite(r) {
			t.Errorf("Root(%v) = %v", x, r)
			continue
		}
		below, above := middle(r, math.Nextafter(r, 0)), middle(r, math.Nextafter(r, inf))
		exact := new(big.Rat).SetFloat64(x)
		if exact.Cmp(below.Mul(below, below)) < 0 || exact.Cmp(above.Mul(above, above)) > 0 {
			t.Errorf("Root(%v) = %v is not the nearest", x, r)
		}
	}
}

func middle(a, b float64) *big.Rat {
	m := new(big.Rat).SetFloat64(a)
	m.Add(m, new(big.Rat).SetFloat64(b))
	return m.Quo(m, big.NewRat(2, 1))
}

// P1.4: the hash, by numbers of any length.
func TestHashByTheRule(t *testing.T) {
	for _, x := range pool() {
		b := math.Float64bits(x)
		if isNaNBits(b) {
			b = oneNaN
		}
		h := new(big.Int).SetUint64((b ^ b/(1<<32)) % (1 << 32))
		h.Mul(h, big.NewInt(2654435769))
		h.Mod(h, big.NewInt(1<<32))
		h.Div(h, big.NewInt(1<<16))
		got := one(t, api.OneHash, x)
		wantBits(t, got, float64(h.Int64()), "Hash", x)
		if i, e := number.Index(got, 65536); e != api.OK || float64(i) != got {
			t.Errorf("Hash(%v) = %v is not from 0 to 65535", x, got)
		}
	}
}

// P1.7
func TestNegOfNegIsTheSame(t *testing.T) {
	for _, x := range pool() {
		wantBits(t, one(t, api.OneNeg, one(t, api.OneNeg, x)), number.Fix(x), "Neg of Neg", x)
	}
}

// P1.7, P1.4: exactly, not by floats.
func TestFloorLiesJustBelow(t *testing.T) {
	for _, x := range pool() {
		if !finite(x) {
			continue
		}
		f := one(t, api.OneFloor, x)
		exact, low := new(big.Rat).SetFloat64(x), new(big.Rat).SetFloat64(f)
		if !low.IsInt() || low.Cmp(exact) > 0 {
			t.Errorf("Floor(%v) = %v is not whole, or above", x, f)
		}
		if next := low.Add(low, big.NewRat(1, 1)); exact.Cmp(next) >= 0 {
			t.Errorf("Floor(%v) = %v is too low", x, f)
		}
		if f == x {
			wantBits(t, f, x, "Floor of a whole number")
		}
	}
}
