package wide

import "math/bits"

// size is how far an Int is from 0: hi times 2^64, and lo. It has no sign, as the least Int's size is no Int.
type size struct{ hi, lo uint64 }

// sizeOf tells how far a is from 0.
func sizeOf(a Int) (s size) {
	if a.Hi < 0 {
		// The least Int goes round to itself, which, without a sign, is its size.
		a = minus(Int{}, a)
	}
	return size{uint64(a.Hi), a.Lo}
}

// signed tells the Int of that size, or its negative, and whether there is one.
func signed(s size, below bool) (a Int, is bool) {
	a = Int{Hi: int64(s.hi), Lo: s.lo}
	if below {
		a = minus(Int{}, a)
	}
	// A size that does not fit comes out with the other sign; 2^127 does so above 0 alone.
	if s != (size{}) && (a.Hi < 0) != below {
		return Int{}, false
	}
	return a, true
}

// lenSize tells how many bits s needs.
func lenSize(s size) (n int) {
	if s.hi != 0 {
		return 64 + bits.Len64(s.hi)
	}
	return bits.Len64(s.lo)
}

// shlSize tells s times 2^k, without the bits that go past the end.
func shlSize(s size, k uint) (t size) {
	if k >= 64 {
		return size{hi: s.lo << (k - 64)}
	}
	return size{hi: s.hi<<k | s.lo>>(64-k), lo: s.lo << k}
}

// mulSizes tells the product, and whether it has no more than 128 bits.
func mulSizes(a, b size) (product size, is bool) {
	if a.hi != 0 && b.hi != 0 {
		return size{}, false
	}
	// One of the two upper halves is 0, so just one of these products can be more.
	overA, upA := bits.Mul64(a.hi, b.lo)
	overB, upB := bits.Mul64(a.lo, b.hi)
	hi, lo := bits.Mul64(a.lo, b.lo)
	hi, carry := bits.Add64(hi, upA|upB, 0)
	if overA != 0 || overB != 0 || carry != 0 {
		return size{}, false
	}
	return size{hi, lo}, true
}

// lessSize tells whether a is less than b.
func lessSize(a, b size) (is bool) {
	return a.hi < b.hi || a.hi == b.hi && a.lo < b.lo
}

// subSizes tells a less b, which is not above a.
func subSizes(a, b size) (rest size) {
	lo, borrow := bits.Sub64(a.lo, b.lo, 0)
	hi, _ := bits.Sub64(a.hi, b.hi, borrow)
	return size{hi, lo}
}

// divSizes tells the quotient, and what is left, of a b that is not 0.
func divSizes(a, b size) (q, r size) {
	if b.hi == 0 {
		// Each division begins with what the one ahead left, which is below b: so none overflows.
		hi, left := bits.Div64(0, a.hi, b.lo)
		lo, left := bits.Div64(left, a.lo, b.lo)
		return size{hi, lo}, size{lo: left}
	}
	guess := guessQuotient(a, b)
	product, _ := mulSizes(size{lo: guess}, b)
	r = subSizes(a, product)
	if !lessSize(r, b) {
		guess++
		r = subSizes(r, b)
	}
	return size{lo: guess}, r
}

// guessQuotient tells a over b, or one less, for a b of more than 64 bits.
func guessQuotient(a, b size) (guess uint64) {
	// b's upper 64 bits alone divide half of a, which, being below 2^127, leaves room for the quotient.
	// As b's other bits are left out, the guess is the quotient or one more.
	shift := uint(bits.LeadingZeros64(b.hi))
	top := shlSize(b, shift).hi
	guess, _ = bits.Div64(a.hi>>1, a.hi<<63|a.lo>>1, top)
	guess >>= 63 - shift
	if guess != 0 {
		guess--
	}
	return guess
}
