package word_test

import (
	"math"
	"math/big"
	"math/rand/v2"
	"testing"

	"donjon/api"
	"donjon/word"
)

// The floats' words that the tests name, as bits, so that no conversion of the program's kind stands between.
const (
	theNaN  = 0x7FF8000000000001
	inf     = 0x7FF0000000000000
	negInf  = -0x0010000000000000
	zero    = 0
	negZero = math.MinInt64
	one     = 0x3FF0000000000000
	negOne  = one + math.MinInt64
	two     = 0x4000000000000000
	three   = 0x4008000000000000
	half    = 0x3FE0000000000000
	least   = 1                  // the least float above nought
	normal  = 0x0010000000000000 // the least normal one
	most    = 0x7FEFFFFFFFFFFFFF // the greatest that is finite
	two53   = 0x4340000000000000 // 2^53: from here on not every whole number is a float
	two63   = 0x43E0000000000000
	sign    = math.MinInt64 // added, it turns a float's sign
)

// nans are words that are no number: quiet and not, with and without a sign, of few and of all bits.
func nans() []int64 {
	return []int64{theNaN, theNaN + sign, 0x7FF8000000000000, -0x0008000000000000, 0x7FF0000000000001, negInf + 1, 0x7FF7FFFFFFFFFFFF, 0x7FFFFFFFFFFFFFFF, -1, 0x7FF4000000000000, 0x7FFDEADBEEF00000}
}

// numbers are floats at the edges, each with both signs.
func numbers() []int64 {
	var l []int64
	for _, a := range []int64{zero, least, 2, 3, normal - 1, normal, normal + 1, half, half - 1, half + 1, one - 1, one, one + 1, two, three, 0x3FB999999999999A, two53 - 1, two53, two53 + 1, two63 - 1, two63, two63 + 1, 0x5FE0000000000000, 0x1FF0000000000000, most - 1, most, inf} {
		l = append(l, a, a+sign)
	}
	return l
}

// words are the edges, and others that look like nothing: the same ones in each run.
func words() []int64 {
	l := append(numbers(), nans()...)
	r := rand.New(rand.NewPCG(1, 1))
	for range 60 {
		near := int64(r.IntN(120)+0x3FF-60) << 52 // of like size, so that sums have to be rounded
		l = append(l, int64(r.Uint64()), r.Int64N(normal), near+r.Int64N(normal)+sign*r.Int64N(2))
	}
	return l
}

func TestWholeNumbers(t *testing.T) { // P101
	const top, low = math.MaxInt64, math.MinInt64
	for i, x := range []struct{ got, want int64 }{
		{word.Add(2, 3), 5}, {word.Add(-2, 3), 1}, {word.Add(top, 1), low}, {word.Add(low, -1), top}, {word.Add(top, top), -2}, {word.Add(low, low), 0},
		{word.Sub(2, 3), -1}, {word.Sub(low, 1), top}, {word.Sub(top, -1), low}, {word.Sub(0, low), low}, {word.Sub(-1, top), low},
		{word.Mul(-3, 5), -15}, {word.Mul(-3, -5), 15}, {word.Mul(1<<62, 4), 0}, {word.Mul(1<<62, 2), low}, {word.Mul(low, -1), low}, {word.Mul(low, low), 0}, {word.Mul(top, top), 1}, {word.Mul(top, 2), -2},
	} {
		if x.got != x.want {
			t.Errorf("P101: %d: %d, not %d", i, x.got, x.want)
		}
	}
	for _, a := range words() {
		for _, b := range words() {
			if word.Add(a, b) != wrap(a, b, (*big.Int).Add) || word.Sub(a, b) != wrap(a, b, (*big.Int).Sub) || word.Mul(a, b) != wrap(a, b, (*big.Int).Mul) {
				t.Errorf("P101: %d, %d", a, b)
			}
		}
	}
}

// wrap works without bounds, and takes the last 64 bits.
func wrap(a, b int64, op func(z, x, y *big.Int) *big.Int) int64 {
	z := op(new(big.Int), big.NewInt(a), big.NewInt(b))
	return int64(z.And(z, new(big.Int).SetUint64(math.MaxUint64)).Uint64())
}

func TestFloatEdges(t *testing.T) { // P102
	for i, x := range []struct{ got, want int64 }{
		{word.FAdd(one, two), three}, {word.FAdd(zero, negZero), zero}, {word.FAdd(negZero, zero), zero}, {word.FAdd(negZero, negZero), negZero}, {word.FAdd(one, negOne), zero}, {word.FAdd(inf, inf), inf}, {word.FAdd(inf, negInf), theNaN}, {word.FAdd(negInf, inf), theNaN}, {word.FAdd(negInf, most), negInf}, {word.FAdd(most, most), inf}, {word.FAdd(most+sign, most+sign), negInf}, {word.FAdd(least, least), 2}, {word.FAdd(normal-1, least), normal}, {word.FAdd(two53, one), two53}, {word.FAdd(two53, three), two53 + 2},
		{word.FSub(three, two), one}, {word.FSub(zero, zero), zero}, {word.FSub(negZero, zero), negZero}, {word.FSub(negZero, negZero), zero}, {word.FSub(zero, negZero), zero}, {word.FSub(inf, inf), theNaN}, {word.FSub(inf, negInf), inf}, {word.FSub(normal, least), normal - 1}, {word.FSub(one, inf), negInf},
		{word.FMul(two, half), one}, {word.FMul(negOne, zero), negZero}, {word.FMul(negZero, negZero), zero}, {word.FMul(zero, inf), theNaN}, {word.FMul(negInf, negZero), theNaN}, {word.FMul(negInf, negOne), inf}, {word.FMul(most, two), inf}, {word.FMul(least, half), zero}, {word.FMul(least+sign, half), negZero}, {word.FMul(least, half+1), least}, {word.FMul(3, half), 2}, {word.FMul(normal, half), normal / 2}, {word.FMul(0x3FB999999999999A, 0x3FB999999999999A), 0x3F847AE147AE147C},
		{word.FDiv(one, two), half}, {word.FDiv(one, three), 0x3FD5555555555555}, {word.FDiv(one, zero), inf}, {word.FDiv(one, negZero), negInf}, {word.FDiv(negOne, negZero), inf}, {word.FDiv(zero, zero), theNaN}, {word.FDiv(negZero, zero), theNaN}, {word.FDiv(inf, zero), inf}, {word.FDiv(inf, negInf), theNaN}, {word.FDiv(one, negInf), negZero}, {word.FDiv(zero, negOne), negZero}, {word.FDiv(least, two), zero}, {word.FDiv(most, half), inf}, {word.FDiv(normal, two), normal / 2},
	} {
		if x.got != x.want {
			t.Errorf("P102: %d: %x, not %x", i, uint64(x.got), uint64(x.want))
		}
	}
}

func TestFloatsAgainstRatios(t *testing.T) { // P102
	for _, a := range words() {
		for _, b := range words() {
			for i, x := range []struct{ got, want int64 }{
				{word.FAdd(a, b), sum(a, b)}, {word.FSub(a, b), sum(a, turned(b))}, {word.FMul(a, b), product(a, b)}, {word.FDiv(a, b), quotient(a, b)},
			} {
				if x.got != x.want {
					t.Errorf("P102: %d: %x, %x: %x, not %x", i, uint64(a), uint64(b), uint64(x.got), uint64(x.want))
				}
			}
		}
	}
}

// The same from the rules of IEEE 754 and from exact ratios, which are rounded once.

func isNaN(a int64) bool { return a&math.MaxInt64 > inf }

func isInf(a int64) bool { return a&math.MaxInt64 == inf }

func isZero(a int64) bool { return a&math.MaxInt64 == 0 }

func turned(a int64) int64 { return a ^ sign }

func ratio(a int64) *big.Rat { return new(big.Rat).SetFloat64(math.Float64frombits(uint64(a))) }

// nearest is a ratio's float, with the sign that is given.
func nearest(r *big.Rat, sign int64) int64 {
	f, _ := r.Float64()
	return int64(math.Float64bits(math.Abs(f))) | sign
}

func sum(a, b int64) int64 {
	switch {
	case isNaN(a) || isNaN(b) || isInf(a) && isInf(b) && a != b:
		return theNaN
	case isInf(a):
		return a
	case isInf(b):
		return b
	}
	r := ratio(a)
	r.Add(r, ratio(b))
	switch r.Sign() {
	case 1:
		return nearest(r, 0)
	case -1:
		return nearest(r, sign)
	}
	if isZero(a) {
		return a & b
	}
	return zero
}

func product(a, b int64) int64 {
	s := (a ^ b) & sign
	switch {
	case isNaN(a) || isNaN(b) || isInf(a) && isZero(b) || isZero(a) && isInf(b):
		return theNaN
	case isInf(a) || isInf(b):
		return inf | s
	}
	r := ratio(a)
	return nearest(r.Mul(r, ratio(b)), s)
}

func quotient(a, b int64) int64 {
	s := (a ^ b) & sign
	switch {
	case isNaN(a) || isNaN(b) || isInf(a) && isInf(b) || isZero(a) && isZero(b):
		return theNaN
	case isInf(a) || isZero(b):
		return inf | s
	case isInf(b):
		return s
	}
	r := ratio(a)
	return nearest(r.Quo(r, ratio(b)), s)
}

func TestNoNumberIsTheNaN(t *testing.T) { // P102
	ops := []func(a, b int64) int64{word.FAdd, word.FSub, word.FMul, word.FDiv, word.FMax}
	for _, n := range nans() {
		for _, a := range words() {
			for i, op := range ops {
				if op(n, a) != theNaN || op(a, n) != theNaN {
					t.Errorf("P102: %d: %x, %x: %x, %x", i, uint64(n), uint64(a), uint64(op(n, a)), uint64(op(a, n)))
				}
			}
		}
	}
}

// place is where a number stands in the order of floats, from its bits.
func place(a int64) int64 {
	if a < 0 {
		return -(a & math.MaxInt64)
	}
	return a
}

func TestMax(t *testing.T) { // P102
	for i, x := range []struct{ a, b, want int64 }{
		{one, two, two}, {two, one, two}, {two + sign, negOne, negOne}, {zero, negZero, zero}, {negZero, zero, zero}, {negZero, negZero, negZero}, {zero, zero, zero}, {inf, most, inf}, {negInf, most + sign, most + sign}, {inf, negInf, inf}, {negInf, negInf, negInf}, {negZero, least + sign, negZero}, {zero, least, least}, {inf, theNaN, theNaN}, {theNaN + sign, inf, theNaN},
	} {
		if got := word.FMax(x.a, x.b); got != x.want {
			t.Errorf("P102: FMax: %d: %x", i, uint64(got))
		}
	}
	for _, a := range numbers() {
		for _, b := range numbers() {
			want := a
			if place(b) > place(a) || isZero(a) && b == zero {
				want = b
			}
			if got := word.FMax(a, b); got != want {
				t.Errorf("P102: FMax: %x, %x: %x", uint64(a), uint64(b), uint64(got))
			}
		}
	}
}

func TestLess(t *testing.T) { // P103
	for i, x := range []struct{ a, b, want int64 }{
		{one, two, 1}, {two, one, 0}, {one, one, 0}, {negOne, one, 1}, {two + sign, negOne, 1}, {negOne, two + sign, 0}, {zero, negZero, 0}, {negZero, zero, 0}, {zero, least, 1}, {least + sign, negZero, 1}, {most, inf, 1}, {inf, inf, 0}, {negInf, inf, 1}, {theNaN, theNaN, 2}, {theNaN, inf, 2}, {negInf, theNaN, 2},
	} {
		if got := word.FLess(x.a, x.b); got != x.want {
			t.Errorf("P103: FLess: %d: %d", i, got)
		}
	}
	for _, a := range words() {
		for _, b := range words() {
			want := int64(0)
			if isNaN(a) || isNaN(b) {
				want = 2
			} else if place(a) < place(b) {
				want = 1
			}
			if got := word.FLess(a, b); got != want {
				t.Errorf("P103: FLess: %x, %x: %d", uint64(a), uint64(b), got)
			}
		}
	}
}

func TestClass(t *testing.T) { // P103
	if word.NaN != 0 || word.Inf != 1 || word.Normal != 2 || word.Small != 3 || word.Zero != 4 {
		t.Error("P103: the classes' numbers")
	}
	for _, x := range []struct {
		a    int64
		want int
	}{
		{zero, word.Zero}, {least, word.Small}, {normal - 1, word.Small}, {normal, word.Normal}, {one, word.Normal}, {most, word.Normal}, {inf, word.Inf}, {inf + 1, word.NaN}, {theNaN, word.NaN}, {math.MaxInt64, word.NaN},
	} {
		if got, turned := word.Class(x.a), word.Class(x.a+sign); got != x.want || turned != x.want {
			t.Errorf("P103: Class: %x: %d, and %d with a sign", uint64(x.a), got, turned)
		}
	}
}

func TestFromInt(t *testing.T) { // P104
	for _, x := range []struct{ a, want int64 }{
		{0, zero}, {1, one}, {-1, negOne}, {1 << 53, two53}, {1<<53 + 1, two53}, {1<<53 + 2, two53 + 1}, {1<<53 + 3, two53 + 2}, {-1<<53 - 1, two53 + sign}, {-1<<53 - 3, two53 + 2 + sign}, {math.MaxInt64, two63}, {math.MinInt64, two63 + sign}, {math.MaxInt64 - 511, two63}, {math.MaxInt64 - 512, two63 - 1}, {math.MaxInt64 - 1023, two63 - 1}, {math.MinInt64 + 512, two63 + sign}, {math.MinInt64 + 513, two63 - 1 + sign},
	} {
		if got := word.FromInt(x.a); got != x.want {
			t.Errorf("P104: FromInt: %d: %x, not %x", x.a, uint64(got), uint64(x.want))
		}
	}
	for _, a := range words() {
		want, _ := new(big.Rat).SetInt64(a).Float64()
		if got := word.FromInt(a); got != int64(math.Float64bits(want)) {
			t.Errorf("P104: FromInt: %d: %x", a, uint64(got))
		}
	}
}

func TestToInt(t *testing.T) { // P104
	for _, x := range []struct{ a, want int64 }{
		{zero, 0}, {negZero, 0}, {least, 0}, {least + sign, 0}, {half + sign, 0}, {one - 1, 0}, {one - 1 + sign, 0}, {one, 1}, {two - 1, 1}, {two - 1 + sign, -1}, {three, 3}, {two53 + 1, 1<<53 + 2}, {two63 - 1, 1<<63 - 1024}, {two63 - 1 + sign, -1<<63 + 1024}, {two63 + sign, math.MinInt64},
	} {
		if got, e := word.ToInt(x.a); got != x.want || e != api.OK {
			t.Errorf("P104: ToInt: %x: %d, %v", uint64(x.a), got, e)
		}
	}
	for _, a := range append(nans(), two63, two63+1, two63+1+sign, most, most+sign, inf, negInf) {
		if got, e := word.ToInt(a); got != 0 || e != api.ErrArg {
			t.Errorf("P104: ToInt: %x: %d, %v", uint64(a), got, e)
		}
	}
	for _, a := range words() {
		want, may := cut(a)
		if got, e := word.ToInt(a); got != want || (e == api.OK) != may || e != api.OK && e != api.ErrArg {
			t.Errorf("P104: ToInt: %x: %d, %v", uint64(a), got, e)
		}
	}
}

// cut is a float without what stands behind its point, if it is a word.
func cut(a int64) (int64, bool) {
	if isNaN(a) || isInf(a) {
		return 0, false
	}
	r := ratio(a)
	if n := new(big.Int).Quo(r.Num(), r.Denom()); n.IsInt64() {
		return n.Int64(), true
	}
	return 0, false
}

func TestWhatFollows(t *testing.T) { // P105
	for _, a := range words() {
		for _, b := range words() {
			if word.FLess(a, b) == 1 && word.FLess(b, a) == 1 {
				t.Errorf("P105: %x, %x", uint64(a), uint64(b))
			}
		}
		n, e := word.ToInt(a)
		if e != api.OK {
			continue
		}
		// As numbers: the whole number 0 has no sign that a float between -1 and 0 could leave to it.
		if want := math.Trunc(math.Float64frombits(uint64(a))); math.Float64frombits(uint64(word.FromInt(n))) != want {
			t.Errorf("P105: %x: %d", uint64(a), n)
		}
	}
}

func TestSameAgain(t *testing.T) { // P3
	for _, a := range words() {
		n, e := word.ToInt(a)
		if m, f := word.ToInt(a); m != n || f != e || word.Class(a) != word.Class(a) || word.FromInt(a) != word.FromInt(a) {
			t.Errorf("P3: %x", uint64(a))
		}
	}
}
