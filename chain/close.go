package chain

import (
	"cobweb/api"
	"cobweb/grid"
	"cobweb/pixel"
)

// Close tells whether one can go along c, and along the segment from a to b, at once, never back on either, so that
// both are, in x and in y, never farther apart than far over 2; false, if c has no vertex, one is not In, a or b is not
// right, k is no rung, or far is not 0 to 2^28.
func Close(c Chain, a, b api.Point, k, far int) bool {
	if !areIn(c.V, k) {
		return false
	}
	first, last := grid.Center(c.V[0], k), grid.Center(c.V[len(c.V)-1], k)
	// Near tells false, too, if a or b is not right, or far is not 0 to 2^28.
	if !pixel.Near(a, a, first, far) || !pixel.Near(b, b, last, far) {
		return false
	}
	// To wait on the segment as long as may be leaves as much of it as can be for the vertices to come.
	come := share{n: 0, d: 1}
	for _, v := range c.V {
		center := grid.Center(v, k)
		fromX, toX := stretch(a.X, b.X, center.X, far)
		fromY, toY := stretch(a.Y, b.Y, center.Y, far)
		come = latest(come, fromX, fromY)
		if toX.isAhead(come) || toY.isAhead(come) {
			return false
		}
	}
	return !share{n: 1, d: 1}.isAhead(come)
}

// share is a place of a segment, or of the line ahead of it and behind it: n over d of the way along it, d being
// above 0.
type share struct{ n, d int }

// isAhead tells whether x comes ahead of y.
func (x share) isAhead(y share) bool {
	// All is doubled: no segment goes farther, in x or in y, than 2^29, and no n is as great as 2^30: so no product
	// goes round.
	return x.n*y.d < y.n*x.d
}

// latest tells that of some places that comes last.
func latest(x share, l ...share) share {
	for _, y := range l {
		if x.isAhead(y) {
			x = y
		}
	}
	return x
}

// stretch tells from where on, and up to where, what goes evenly from p to q is no farther than far over 2 from m: of
// what stands still all of it, or, if it is too far, one that ends ahead of where it begins.
func stretch(p, q, m, far int) (from, to share) {
	low, high, way := 2*(m-p)-far, 2*(m-p)+far, 2*(q-p)
	switch {
	case way > 0:
		return share{n: low, d: way}, share{n: high, d: way}
	case way < 0:
		return share{n: -high, d: -way}, share{n: -low, d: -way}
	case low > 0, high < 0:
		return share{n: 1, d: 1}, share{n: 0, d: 1}
	}
	return share{n: 0, d: 1}, share{n: 1, d: 1}
}
