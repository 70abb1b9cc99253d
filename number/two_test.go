package number_test

import (
	"math"
	"math/big"
	"testing"

	"beadle/api"
	"beadle/number"
)

func two(t *testing.T, op int, x, y float64) float64 {
	t.Helper()
	z, e := number.Two(op, x, y)
	if e != api.OK {
		t.Errorf("Two(%d, %v, %v): error %d", op, x, y, e)
	}
	return z
}

// eachPair calls f with all pairs of the pool.
func eachPair(f func(x, y float64)) {
	l := pool()
	for _, x := range l {
		for _, y := range l {
			f(x, y)
		}
	}
}

type twoCase struct {
	op      int
	x, y, z float64
}

func wantTwo(t *testing.T, l []twoCase) {
	t.Helper()
	for _, c := range l {
		wantBits(t, two(t, c.op, c.x, c.y), c.z, "Two", c.op, c.x, c.y)
	}
}

// P1.5
func TestSumsAndProductsByExamples(t *testing.T) {
	wantTwo(t, []twoCase{
		{api.TwoAdd, 1, 2, 3}, {api.TwoAdd, minus0, 0, 0}, {api.TwoAdd, 0, minus0, 0}, {api.TwoAdd, minus0, minus0, minus0}, {api.TwoAdd, 1, -1, 0},
		{api.TwoAdd, inf, -inf, theNaN}, {api.TwoAdd, inf, 1, inf}, {api.TwoAdd, greatest, greatest, inf}, {api.TwoAdd, 1 << 53, 1, 1 << 53}, {api.TwoAdd, 1<<53 + 2, 1, 1<<53 + 4},
		{api.TwoSub, 1, 2, -1}, {api.TwoSub, inf, inf, theNaN}, {api.TwoSub, 0, 0, 0}, {api.TwoSub, minus0, 0, minus0}, {api.TwoSub, 0, minus0, 0}, {api.TwoSub, -greatest, greatest, -inf},
		{api.TwoMul, 3, -2, -6}, {api.TwoMul, inf, 0, theNaN}, {api.TwoMul, minus0, inf, theNaN}, {api.TwoMul, -3, 0, minus0}, {api.TwoMul, -3, minus0, 0},
		{api.TwoMul, greatest, 2, inf}, {api.TwoMul, tiniest, 0.5, 0}, {api.TwoMul, -tiniest, 0.5, minus0}, {api.TwoMul, tiniest, 1.5, 2 * tiniest}, {api.TwoMul, inf, -inf, -inf},
		{api.TwoDiv, 7, 2, 3.5}, {api.TwoDiv, 1, 3, 1.0 / 3}, {api.TwoDiv, 1, 0, inf}, {api.TwoDiv, 1, minus0, -inf}, {api.TwoDiv, -1, 0, -inf}, {api.TwoDiv, -1, minus0, inf},
		{api.TwoDiv, 0, 0, theNaN}, {api.TwoDiv, 0, minus0, theNaN}, {api.TwoDiv, minus0, 0, theNaN}, {api.TwoDiv, theNaN, 0, theNaN}, {api.TwoDiv, inf, 0, inf}, {api.TwoDiv, inf, inf, theNaN},
		{api.TwoDiv, 1, -inf, minus0}, {api.TwoDiv, greatest, 0.5, inf}, {api.TwoDiv, tiniest, 2, 0},
	})
}

// P1.5
func TestModByExamples(t *testing.T) {
	wantTwo(t, []twoCase{
		{api.TwoMod, 7, 3, 1}, {api.TwoMod, 6, 3, 0}, {api.TwoMod, 2, 3, 2}, {api.TwoMod, 0, 5, 0}, {api.TwoMod, minus0, 5, 0}, {api.TwoMod, 7, 1, 0},
		{api.TwoMod, 1<<53 - 1, 10, 1}, {api.TwoMod, 1<<53 - 1, 1<<53 - 1, 0}, {api.TwoMod, 1<<53 - 2, 1<<53 - 1, 1<<53 - 2}, {api.TwoMod, 1<<53 - 1, 1 << 52, 1<<52 - 1},
		{api.TwoMod, 1 << 53, 3, theNaN}, {api.TwoMod, 3, 1 << 53, theNaN}, {api.TwoMod, 7, 0, theNaN}, {api.TwoMod, 7, minus0, theNaN}, {api.TwoMod, 0, 0, theNaN},
		{api.TwoMod, 7, 0.5, theNaN}, {api.TwoMod, 7.5, 3, theNaN}, {api.TwoMod, 7, 1.5, theNaN}, {api.TwoMod, -7, 3, theNaN}, {api.TwoMod, 7, -3, theNaN}, {api.TwoMod, -7, -3, theNaN},
		{api.TwoMod, inf, 3, theNaN}, {api.TwoMod, 3, inf, theNaN}, {api.TwoMod, -inf, 3, theNaN}, {api.TwoMod, theNaN, 3, theNaN}, {api.TwoMod, 3, theNaN, theNaN},
		{api.TwoMod, tiniest, 3, theNaN}, {api.TwoMod, 3, tiniest, theNaN}, {api.TwoMod, greatest, 3, theNaN}, {api.TwoMod, 3, greatest, theNaN}, {api.TwoMod, 1 << 63, 3, theNaN}, {api.TwoMod, 1 << 64, 3, theNaN},
	})
}

// P1.5
func TestComparingOperationsByExamples(t *testing.T) {
	wantTwo(t, []twoCase{
		{api.TwoMin, 0, minus0, minus0}, {api.TwoMin, minus0, 0, minus0}, {api.TwoMin, 1, 2, 1}, {api.TwoMin, 2, 1, 1}, {api.TwoMin, -inf, 3, -inf}, {api.TwoMin, 1, theNaN, theNaN}, {api.TwoMin, theNaN, 1, theNaN},
		{api.TwoMax, 0, minus0, 0}, {api.TwoMax, minus0, 0, 0}, {api.TwoMax, 1, 2, 2}, {api.TwoMax, 2, 1, 2}, {api.TwoMax, inf, 3, inf}, {api.TwoMax, 1, theNaN, theNaN}, {api.TwoMax, theNaN, 1, theNaN}, {api.TwoMax, theNaN, inf, theNaN},
		{api.TwoLess, 1, 2, 1}, {api.TwoLess, 2, 1, 0}, {api.TwoLess, 1, 1, 0}, {api.TwoLess, minus0, 0, 0}, {api.TwoLess, 1, theNaN, 0}, {api.TwoLess, theNaN, 1, 0}, {api.TwoLess, -inf, inf, 1},
		{api.TwoAtMost, 1, 2, 1}, {api.TwoAtMost, 2, 1, 0}, {api.TwoAtMost, 1, 1, 1}, {api.TwoAtMost, 0, minus0, 1}, {api.TwoAtMost, theNaN, theNaN, 0}, {api.TwoAtMost, theNaN, 1, 0}, {api.TwoAtMost, 1, theNaN, 0},
		{api.TwoEqual, 1, 1, 1}, {api.TwoEqual, 1, 2, 0}, {api.TwoEqual, 0, minus0, 1}, {api.TwoEqual, theNaN, theNaN, 0}, {api.TwoEqual, inf, inf, 1}, {api.TwoEqual, inf, -inf, 0},
		{api.TwoSame, 1, 1, 1}, {api.TwoSame, 0, minus0, 0}, {api.TwoSame, minus0, minus0, 1}, {api.TwoSame, theNaN, theNaN, 1}, {api.TwoSame, theNaN, inf, 0},
		{api.TwoAhead, minus0, 0, 1}, {api.TwoAhead, 0, minus0, 0}, {api.TwoAhead, 1, 2, 1}, {api.TwoAhead, 2, 1, 0}, {api.TwoAhead, 1, 1, 0}, {api.TwoAhead, inf, theNaN, 1}, {api.TwoAhead, theNaN, theNaN, 0}, {api.TwoAhead, theNaN, -inf, 0},
	})
}

// P1.5: every NaN is taken for the one NaN, and answered as it.
func TestTwoOfNaNs(t *testing.T) {
	for op := api.TwoAdd; op <= api.TwoAhead; op++ {
		for _, b := range nanBits {
			x := math.Float64frombits(b)
			for _, y := range pool() {
				wantBits(t, two(t, op, x, y), two(t, op, theNaN, y), "Two", op, b, y)
				wantBits(t, two(t, op, y, x), two(t, op, y, theNaN), "Two", op, y, b)
				if op <= api.TwoMax {
					wantBits(t, two(t, op, x, y), theNaN, "Two", op, b, y)
					wantBits(t, two(t, op, y, x), theNaN, "Two", op, y, b)
				}
			}
		}
	}
}

// P1.5
func TestTwoRefusesWhatIsNoOperation(t *testing.T) {
	for _, op := range []int{0, -1, -5, 13, 14, 99, math.MinInt, math.MaxInt, 1 << 32, 1<<32 + 1} {
		for _, x := range []float64{1, theNaN, inf} {
			z, e := number.Two(op, x, 1)
			if e != api.ErrArg {
				t.Errorf("Two(%d, %v, 1): error %d", op, x, e)
			}
			wantBits(t, z, 0, "Two beside an error", op, x)
		}
	}
}

// P1.5: rounding, held against exact fractions.
func TestSumsAndProductsAreTheNearest(t *testing.T) {
	exactly := map[int]func(z, x, y *big.Rat) *big.Rat{
		api.TwoAdd: (*big.Rat).Add, api.TwoSub: (*big.Rat).Sub, api.TwoMul: (*big.Rat).Mul, api.TwoDiv: (*big.Rat).Quo,
	}
	eachPair(func(x, y float64) {
		if !finite(x) || !finite(y) {
			return
		}
		for op, f := range exactly {
			if op == api.TwoDiv && y == 0 {
				continue
			}
			exact := f(new(big.Rat), new(big.Rat).SetFloat64(x), new(big.Rat).SetFloat64(y))
			got := two(t, op, x, y)
			if exact.Sign() != 0 {
				want, _ := exact.Float64()
				wantBits(t, got, want, "Two", op, x, y)
			} else if got != 0 {
				t.Errorf("Two(%d, %v, %v) = %v, no nought", op, x, y, got)
			}
		}
	})
}

// P1.5: Mod, held against integers of any length.
func TestModIsWhatIsLeft(t *testing.T) {
	most := new(big.Rat).SetInt64(1 << 53)
	eachPair(func(x, y float64) {
		want := theNaN
		if finite(x) && finite(y) {
			a, b := new(big.Rat).SetFloat64(x), new(big.Rat).SetFloat64(y)
			if a.IsInt() && b.IsInt() && a.Sign() >= 0 && b.Sign() > 0 && a.Cmp(most) < 0 && b.Cmp(most) < 0 {
				want = float64(new(big.Int).Mod(a.Num(), b.Num()).Int64())
			}
		}
		wantBits(t, two(t, api.TwoMod, x, y), want, "Mod", x, y)
	})
}

// P1.5: what compares says what Compare, Same and the values say.
func TestComparingOperationsAgree(t *testing.T) {
	truth := map[bool]float64{true: 1, false: 0}
	eachPair(func(x, y float64) {
		wantBits(t, two(t, api.TwoLess, x, y), truth[x < y], "Less", x, y)
		wantBits(t, two(t, api.TwoAtMost, x, y), truth[x <= y], "AtMost", x, y)
		wantBits(t, two(t, api.TwoEqual, x, y), truth[x == y], "Equal", x, y)
		wantBits(t, two(t, api.TwoSame, x, y), truth[number.Same(x, y)], "Same", x, y)
		wantBits(t, two(t, api.TwoAhead, x, y), truth[number.Compare(x, y) < 0], "Ahead", x, y)
	})
}

// P1.7
func TestAddAndMulEitherWay(t *testing.T) {
	eachPair(func(x, y float64) {
		for _, op := range []int{api.TwoAdd, api.TwoMul} {
			wantBits(t, two(t, op, x, y), two(t, op, y, x), "Two", op, x, y)
		}
	})
}

// P1.7
func TestSubIsAddOfNeg(t *testing.T) {
	eachPair(func(x, y float64) {
		wantBits(t, two(t, api.TwoSub, x, y), two(t, api.TwoAdd, x, one(t, api.OneNeg, y)), "Sub", x, y)
	})
}

// P1.7, P1.5
func TestMinAndMaxAreBoth(t *testing.T) {
	eachPair(func(x, y float64) {
		low, high := two(t, api.TwoMin, x, y), two(t, api.TwoMax, x, y)
		if math.IsNaN(x) || math.IsNaN(y) {
			wantBits(t, low, theNaN, "Min", x, y)
			wantBits(t, high, theNaN, "Max", x, y)
			return
		}
		if number.Compare(x, y) > 0 {
			x, y = y, x
		}
		wantBits(t, low, x, "Min", x, y)
		wantBits(t, high, y, "Max", x, y)
	})
}
