package pixel

import (
	"cmp"

	"cobweb/api"
)

// box has its corners doubled, as a pixel's may be halves; and whether the sides at its low corner are its own, and
// those at its high one.
type box struct {
	low, high       api.Point
	ownLow, ownHigh bool
}

// cutLeft tells p without what is too far to the left.
func (x box) cutLeft(p part) part {
	return p.keep(2*p.a.X-x.low.X, 2*p.b.X-x.low.X, x.ownLow)
}

// cutBelow tells p without what is too low.
func (x box) cutBelow(p part) part {
	return p.keep(2*p.a.Y-x.low.Y, 2*p.b.Y-x.low.Y, x.ownLow)
}

// cutRight tells p without what is too far to the right.
func (x box) cutRight(p part) part {
	return p.keep(x.high.X-2*p.a.X, x.high.X-2*p.b.X, x.ownHigh)
}

// cutAbove tells p without what is too high.
func (x box) cutAbove(p part) part {
	return p.keep(x.high.Y-2*p.a.Y, x.high.Y-2*p.b.Y, x.ownHigh)
}

// part is what is left of the segment from a to b: the places between two bounds.
type part struct {
	a, b     api.Point
	from, to bound
}

// bound is a place of a segment: n over d of the way from a to b, d being above 0; own tells whether it is left itself.
type bound struct {
	n, d int
	own  bool
}

// allOf tells the whole segment from a to b.
func allOf(a, b api.Point) part {
	return part{a: a, b: b, from: bound{n: 0, d: 1, own: true}, to: bound{n: 1, d: 1, own: true}}
}

// keep tells p with those places alone at which what goes evenly from atA, at a, to atB, at b, is above 0, or is 0, if
// that is own.
func (p part) keep(atA, atB int, own bool) part {
	switch rise := atB - atA; {
	case rise > 0:
		p.from = later(p.from, bound{n: -atA, d: rise, own: own})
	case rise < 0:
		p.to = earlier(p.to, bound{n: atA, d: -rise, own: own})
	case atA < 0, atA == 0 && !own:
		// It is the same all along the segment. What is turned inside out stays so, whatever else is cut.
		p.from, p.to = bound{n: 1, d: 1}, bound{n: 0, d: 1}
	}
	return p
}

// hasAny tells whether a place is left.
func (p part) hasAny() bool {
	c := compare(p.from, p.to)
	return c < 0 || c == 0 && p.from.own && p.to.own
}

// later tells that of two bounds behind which less is left.
func later(x, y bound) bound {
	if c := compare(x, y); c > 0 || c == 0 && y.own {
		return x
	}
	return y
}

// earlier tells that of two bounds ahead of which less is left.
func earlier(x, y bound) bound {
	if c := compare(x, y); c < 0 || c == 0 && y.own {
		return x
	}
	return y
}

// compare tells -1, 0 or 1: on the way from a to b, x comes ahead of y, is at the same place, comes behind it.
func compare(x, y bound) int {
	// All is doubled: no segment goes farther, in x or in y, than 2^29, and no corner is 2^30 from its ends: so no product
	// goes round.
	return cmp.Compare(x.n*y.d, y.n*x.d)
}
