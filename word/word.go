// Package word: whole numbers and floats at their edges. See doc/01-word.md.
package word

import (
	"math"

	"donjon/api"
)

// Classes of floats.
const (
	NaN    = 0
	Inf    = 1
	Normal = 2
	Small  = 3 // below the normal ones
	Zero   = 4
)

// theNaN is the one word that stands for whatever is no number (W7).
const theNaN int64 = 0x7FF8000000000001

const (
	leastNormal = 0x1p-1022
	intEnd      = 0x1p63 // the first float above all words; its negative is the least word
)

func Add(a, b int64) int64 { return a + b }

func Sub(a, b int64) int64 { return a - b }

func Mul(a, b int64) int64 { return a * b }

// FAdd to FMax work on the bits of floats. The conversions round each result by itself: without them a compiler may fuse a product with a sum behind it.
func FAdd(a, b int64) int64 { return toWord(float64(toFloat(a) + toFloat(b))) }

func FSub(a, b int64) int64 { return toWord(float64(toFloat(a) - toFloat(b))) }

func FMul(a, b int64) int64 { return toWord(float64(toFloat(a) * toFloat(b))) }

func FDiv(a, b int64) int64 { return toWord(float64(toFloat(a) / toFloat(b))) }

// FMax does without math.Max, to which an infinity is greater than what is no number.
func FMax(a, b int64) int64 {
	switch FLess(a, b) {
	case 2:
		return theNaN
	case 1:
		return b
	}
	if FLess(b, a) == 1 {
		return a
	}
	// Of floats that are the same only noughts differ in bits, and only in the sign: it stays if both have it.
	return a & b
}

// FLess tells 1, 0, or 2: they cannot be compared.
func FLess(a, b int64) int64 {
	x, y := toFloat(a), toFloat(b)
	switch {
	case math.IsNaN(x) || math.IsNaN(y):
		return 2
	case x < y:
		return 1
	}
	return 0
}

func Class(a int64) int {
	x := math.Abs(toFloat(a))
	switch {
	case math.IsNaN(x):
		return NaN
	case math.IsInf(x, 0):
		return Inf
	case x == 0:
		return Zero
	case x < leastNormal:
		return Small
	}
	return Normal
}

func FromInt(a int64) int64 { return toWord(float64(a)) }

// ToInt need not cut off ahead of asking: beside -2^63 and 2^63 every float is whole.
func ToInt(a int64) (int64, api.Errno) {
	x := toFloat(a)
	if math.IsNaN(x) || x < -intEnd || x >= intEnd {
		return 0, api.ErrArg
	}
	return int64(x), api.OK
}

func toFloat(a int64) float64 { return math.Float64frombits(uint64(a)) }

// toWord answers the one NaN, since the bits of another one would tell which machine made it, and of what.
func toWord(x float64) int64 {
	if math.IsNaN(x) {
		return theNaN
	}
	return int64(math.Float64bits(x))
}
