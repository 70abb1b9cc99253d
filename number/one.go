package number

import (
	"math"

	"beadle/api"
)

// One works out what an operation makes of one number.
func One(op int, x float64) (float64, api.Errno) {
	table := oneTable()
	if op <= api.OneNone || op >= len(table) {
		return 0, api.ErrArg
	}
	return Fix(table[op](Fix(x))), api.OK
}

// oneTable has a function for each operation on one number, none for OneNone.
func oneTable() [api.OneHash + 1]func(float64) float64 {
	return [api.OneHash + 1]func(float64) float64{
		api.OneNeg:   negative,
		api.OneAbs:   absolute,
		api.OneFloor: floor,
		api.OneRoot:  root,
		api.OneNot:   not,
		api.OneIsNaN: isNaN,
		api.OneSign:  sign,
		api.OneHash:  hash,
	}
}

// negative turns the sign's bit, since 0 - x would make +0 of +0.
func negative(x float64) float64 { return math.Float64frombits(math.Float64bits(x) ^ signBit) }

func absolute(x float64) float64 { return math.Abs(x) }

func floor(x float64) float64 { return math.Floor(x) }

func root(x float64) float64 { return math.Sqrt(x) }

func not(x float64) float64 { return truth(!True(x)) }

func isNaN(x float64) float64 { return truth(math.IsNaN(x)) }

func sign(x float64) float64 {
	if x > 0 {
		return 1
	}
	if x < 0 {
		return -1
	}
	return x
}

// hash leans on uint32's wrap-round for what is taken modulo 2^32.
func hash(x float64) float64 {
	b := math.Float64bits(x)
	h := uint32(b ^ b>>32)
	return float64(h * 2654435769 >> 16)
}

// truth is the number that stands for a yes or a no.
func truth(yes bool) float64 {
	if yes {
		return 1
	}
	return 0
}
