package pixel

import (
	"math/big"
	"slices"
	"testing"

	"cobweb/api"
	"cobweb/cross"
)

// owns tells, of each kind, whether the place (x, y) is in the box from (lowX, lowY) to (highX, highY), all times one
// number above 0.
func owns(x, y, lowX, lowY, highX, highY int) answers {
	return answers{
		lowX <= x && x < highX && lowY <= y && y < highY,
		lowX <= x && x <= highX && lowY <= y && y <= highY,
		lowX < x && x < highX && lowY < y && y < highY,
	}
}

// steps is such that, of segments among numbers no more than 3 apart and boxes of doubled whole numbers, every place at
// which a side's line is come to is a whole number of steps away from the first end, and an even one: so between any
// two such places that differ there is a step too.
const steps = 24

// slowAmongFew tells what Meets is of each kind, by looking at each step.
func slowAmongFew(a, b, low, high api.Point) (want answers) {
	for i := range steps + 1 {
		x, y := 2*(a.X*steps+i*(b.X-a.X)), 2*(a.Y*steps+i*(b.Y-a.Y))
		is := owns(x, y, low.X*steps, low.Y*steps, high.X*steps, high.Y*steps)
		for kind := range want {
			want[kind] = want[kind] || is[kind]
		}
	}
	return want
}

// pointsFrom tells all points whose numbers are from low to high.
func pointsFrom(low, high int) (l []api.Point) {
	for x := low; x <= high; x++ {
		for y := low; y <= high; y++ {
			l = append(l, at(x, y))
		}
	}
	return l
}

// TestAmongFewPoints goes through all segments among 16 points, and all boxes whose corners are theirs, halves between
// them, and halves beside them: those that are empty, or inside out, too.
func TestAmongFewPoints(t *testing.T) {
	points, corners := pointsFrom(-2, 1), pointsFrom(-5, 3)
	for i, a := range points {
		for _, b := range points[i:] {
			for _, low := range corners {
				for _, high := range corners {
					check(t, a, b, low, high, slowAmongFew(a, b, low, high))
				}
			}
		}
	}
}

// ratOf tells m over n.
func ratOf(m, n int) *big.Rat { return big.NewRat(int64(m), int64(n)) }

// going tells the number, doubled, at a share of the way from m to n.
func going(m, n int, share *big.Rat) *big.Rat {
	way := new(big.Rat).Mul(share, ratOf(2*(n-m), 1))
	return way.Add(way, ratOf(2*m, 1))
}

// sharesOf tells the shares of the way from a to b at which a side's line is come to, both ends, and one share between
// each two of them; rising.
func sharesOf(a, b, low, high api.Point) (l []*big.Rat) {
	l = []*big.Rat{ratOf(0, 1), ratOf(1, 1)}
	add := func(m, n, side int) {
		if m == n || side < 2*min(m, n) || side > 2*max(m, n) {
			return
		}
		l = append(l, ratOf(side-2*m, 2*(n-m)))
	}
	add(a.X, b.X, low.X)
	add(a.X, b.X, high.X)
	add(a.Y, b.Y, low.Y)
	add(a.Y, b.Y, high.Y)
	slices.SortFunc(l, (*big.Rat).Cmp)
	for i := range len(l) - 1 {
		between := new(big.Rat).Add(l[i], l[i+1])
		l = append(l, between.Mul(between, ratOf(1, 2)))
	}
	return l
}

// slow tells what Meets is of each kind, of right points and corners: what a box owns can change at a side's line alone.
func slow(a, b, low, high api.Point) (want answers) {
	for _, share := range sharesOf(a, b, low, high) {
		x, y := going(a.X, b.X, share), going(a.Y, b.Y, share)
		atX, atY := x.Cmp(ratOf(low.X, 1)), y.Cmp(ratOf(low.Y, 1))
		toX, toY := x.Cmp(ratOf(high.X, 1)), y.Cmp(ratOf(high.Y, 1))
		want[0] = want[0] || min(atX, atY) >= 0 && max(toX, toY) < 0
		want[1] = want[1] || min(atX, atY) >= 0 && max(toX, toY) <= 0
		want[2] = want[2] || min(atX, atY) > 0 && max(toX, toY) < 0
	}
	return want
}

// mixer gives numbers of all lengths, by a fixed rule that looks like chance.
func mixer() func() int {
	seed := uint64(6)
	next := func() uint64 {
		seed ^= seed << 13
		seed ^= seed >> 7
		seed ^= seed << 17
		return seed
	}
	return func() int { return int(int64(next()) >> (next() % 64)) }
}

// number tells one from -most to most, often at the ends of that, or close to them.
func number(next func() int, most int) int {
	n := next()
	switch next() & 3 {
	case 0:
		return most - n&3
	case 1:
		return -most + n&3
	case 2:
		return n % 5
	}
	return n % (most + 1)
}

// tally counts how often each triple of answers came.
type tally map[answers]int

// checkCommon tells if one of the four triples that may come did so less than 200 times: then the segments and boxes
// are not such as a test is for.
func (n tally) checkCommon(t *testing.T) {
	t.Helper()
	if min(n[inside()], n[onLowSide()], n[onHighSide()], n[nowhere()]) < 200 {
		t.Error("the answers came this often:", n)
	}
}

func TestMixedSegmentsAndBoxes(t *testing.T) {
	next := mixer()
	for range 20000 {
		a, b := at(number(next, cross.Far), number(next, cross.Far)), at(number(next, cross.Far), number(next, cross.Far))
		low, high := at(number(next, farCorner), number(next, farCorner)), at(number(next, farCorner), number(next, farCorner))
		check(t, a, b, low, high, slow(a, b, low, high))
	}
}

// throughCorner tells a segment through a point, or past it by a step, and a box with a corner there, or half a unit
// from there; some are not right.
func throughCorner(next func() int) (a, b, low, high api.Point) {
	x, y := number(next, cross.Far), number(next, cross.Far)
	wayX, wayY := next()%(cross.Far/4), next()%(cross.Far/4)
	back, on := next()&3, next()&3
	a, b = at(x-wayX*back, y-wayY*back), at(x+wayX*on, y+wayY*on)
	if next()&3 == 0 {
		b = at(b.X+next()%2, b.Y+next()%2)
	}
	corner := at(2*x, 2*y)
	if next()&3 == 0 {
		corner = at(corner.X+next()%2, corner.Y+next()%2)
	}
	low, high = corner, corner
	// Which of its corners it is, by where it goes from there.
	wide, tall := next()&(1<<28-1), next()&(1<<28-1)
	switch next() & 3 {
	case 0:
		high = at(corner.X+wide, corner.Y+tall)
	case 1:
		low = at(corner.X-wide, corner.Y-tall)
	case 2:
		low, high = at(corner.X-wide, corner.Y), at(corner.X, corner.Y+tall)
	case 3:
		low, high = at(corner.X, corner.Y-tall), at(corner.X+wide, corner.Y)
	}
	return a, b, low, high
}

func TestSegmentsThroughACorner(t *testing.T) {
	next := mixer()
	came := tally{}
	for range 40000 {
		a, b, low, high := throughCorner(next)
		if !cross.Right(a) || !cross.Right(b) || !isCorner(low) || !isCorner(high) {
			continue
		}
		want := slow(a, b, low, high)
		check(t, a, b, low, high, want)
		came[want]++
	}
	came.checkCommon(t)
}
