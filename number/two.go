package number

import (
	"math"

	"beadle/api"
)

// Two works out what an operation makes of two numbers.
func Two(op int, x, y float64) (float64, api.Errno) {
	table := twoTable()
	if op <= api.TwoNone || op >= len(table) {
		return 0, api.ErrArg
	}
	return Fix(table[op](Fix(x), Fix(y))), api.OK
}

// twoTable has a function for each operation on two numbers, none for TwoNone.
func twoTable() [api.TwoAhead + 1]func(x, y float64) float64 {
	return [api.TwoAhead + 1]func(x, y float64) float64{
		api.TwoAdd:    sum,
		api.TwoSub:    difference,
		api.TwoMul:    product,
		api.TwoDiv:    quotient,
		api.TwoMod:    rest,
		api.TwoMin:    least,
		api.TwoMax:    greatest,
		api.TwoLess:   less,
		api.TwoAtMost: atMost,
		api.TwoEqual:  equal,
		api.TwoSame:   same,
		api.TwoAhead:  ahead,
	}
}

func sum(x, y float64) float64 { return x + y }

func difference(x, y float64) float64 { return x - y }

// product is converted, because that keeps the compiler from fusing it with a sum.
func product(x, y float64) float64 { return float64(x * y) }

func quotient(x, y float64) float64 { return x / y }

// rest goes by integers, which both numbers are exactly.
func rest(x, y float64) float64 {
	if !countable(x) || !countable(y) || y < 1 {
		return nan()
	}
	return float64(uint64(x) % uint64(y))
}

// countable tells whether the value is a whole number from 0 on and below 2^53, up to where no whole number lacks a float.
func countable(x float64) bool { return x >= 0 && x < 1<<53 && float64(uint64(x)) == x }

// least asks for NaN by itself, since NaN stands behind all others.
func least(x, y float64) float64 {
	if math.IsNaN(x) || math.IsNaN(y) {
		return nan()
	}
	if Compare(y, x) < 0 {
		return y
	}
	return x
}

// greatest need not ask for NaN: it stands behind all others.
func greatest(x, y float64) float64 {
	if Compare(y, x) > 0 {
		return y
	}
	return x
}

func less(x, y float64) float64 { return truth(x < y) }

func atMost(x, y float64) float64 { return truth(x <= y) }

func equal(x, y float64) float64 { return truth(x == y) }

func same(x, y float64) float64 { return truth(Same(x, y)) }

func ahead(x, y float64) float64 { return truth(Compare(x, y) < 0) }
