// Package wide is layer 1: whole numbers of 128 bits (see shared/doc/01-wide.md).
package wide

import (
	"math"
	"math/bits"
)

// Int is Hi times 2^64, and Lo. Each number has one form alone, so == tells equal numbers.
type Int struct {
	Hi int64
	Lo uint64
}

// Of tells n.
func Of(n int64) Int { return Int{Hi: n >> 63, Lo: uint64(n)} }

// Add tells the sum, and whether it is an Int.
func Add(a, b Int) (sum Int, is bool) {
	sum = plus(a, b)
	// The sum of two of one sign is past the end just if its sign is the other one.
	if (a.Hi < 0) == (b.Hi < 0) && (sum.Hi < 0) != (a.Hi < 0) {
		return Int{}, false
	}
	return sum, true
}

// Sub tells the difference, and whether it is an Int.
func Sub(a, b Int) (rest Int, is bool) {
	rest = minus(a, b)
	// As in Add, of a and the negative of b, which need not be an Int itself.
	if (a.Hi < 0) != (b.Hi < 0) && (rest.Hi < 0) != (a.Hi < 0) {
		return Int{}, false
	}
	return rest, true
}

// Neg tells the negative, and whether it is an Int.
func Neg(a Int) (n Int, is bool) {
	if a == (Int{Hi: math.MinInt64}) {
		return Int{}, false
	}
	return minus(Int{}, a), true
}

// Mul tells the product, and whether it is an Int.
func Mul(a, b Int) (product Int, is bool) {
	s, fits := mulSizes(sizeOf(a), sizeOf(b))
	if !fits {
		return Int{}, false
	}
	return signed(s, (a.Hi < 0) != (b.Hi < 0))
}

// Times tells the product: none is greater than 2^126, so it is always an Int.
func Times(a, b int64) Int {
	product, _ := Mul(Of(a), Of(b))
	return product
}

// Shl tells a times 2^k, and whether it is an Int; of a k below 0 it never is.
func Shl(a Int, k int) (product Int, is bool) {
	if k < 0 {
		return Int{}, false
	}
	if a == (Int{}) {
		return Int{}, true
	}
	s := sizeOf(a)
	// The sum of k and the length could go round; this difference can't.
	if k > 128-lenSize(s) {
		return Int{}, false
	}
	return signed(shlSize(s, uint(k)), a.Hi < 0)
}

// Cmp tells -1, 0 or 1: a is below b, the same, above.
func Cmp(a, b Int) int {
	switch {
	case a == b:
		return 0
	case a.Hi < b.Hi, a.Hi == b.Hi && a.Lo < b.Lo:
		return -1
	}
	return 1
}

// Sign tells Cmp of a and 0.
func Sign(a Int) int { return Cmp(a, Int{}) }

// Div tells, of a b above 0, the greatest whole q with q times b not above a, and what is left.
func Div(a, b Int) (q, r Int, is bool) {
	if Sign(b) <= 0 {
		return Int{}, Int{}, false
	}
	quotient, rest := divSizes(sizeOf(a), sizeOf(b))
	// No quotient is greater than a's size, and no rest is as great as b, so both fit.
	q, _ = signed(quotient, a.Hi < 0)
	r, _ = signed(rest, a.Hi < 0)
	if r.Hi < 0 {
		// Sizes are divided towards 0; below 0 what is left must be brought up.
		q, r = minus(q, Of(1)), plus(r, b)
	}
	return q, r, true
}

// Small tells a as an int64, and whether it is one.
func Small(a Int) (n int64, is bool) {
	n = int64(a.Lo)
	if Of(n) != a {
		return 0, false
	}
	return n, true
}

// plus tells the sum, going round at 2^128.
func plus(a, b Int) (sum Int) {
	lo, carry := bits.Add64(a.Lo, b.Lo, 0)
	hi, _ := bits.Add64(uint64(a.Hi), uint64(b.Hi), carry)
	return Int{Hi: int64(hi), Lo: lo}
}

// minus tells the difference, going round at 2^128.
func minus(a, b Int) (rest Int) {
	lo, borrow := bits.Sub64(a.Lo, b.Lo, 0)
	hi, _ := bits.Sub64(uint64(a.Hi), uint64(b.Hi), borrow)
	return Int{Hi: int64(hi), Lo: lo}
}
