package wide

import (
	"strconv"
	"strings"
)

// The greatest power of ten that has 64 bits at most: what it leaves, and how often it goes into any size, fit a uint64.
const (
	chunk       = 10_000_000_000_000_000_000
	chunkDigits = 19
)

// Text tells a in decimal digits.
func Text(a Int) string {
	digits := textSize(sizeOf(a))
	if a.Hi < 0 {
		return "-" + digits
	}
	return digits
}

// textSize tells the decimal digits of a size that an Int has.
func textSize(s size) (digits string) {
	upper, lower := divSizes(s, size{lo: chunk})
	digits = strconv.FormatUint(lower.lo, 10)
	if upper == (size{}) {
		return digits
	}
	noughts := strings.Repeat("0", chunkDigits-len(digits))
	return strconv.FormatUint(upper.lo, 10) + noughts + digits
}
