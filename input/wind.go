package input

import (
	"cobweb/api"
	"cobweb/plane"
)

// Wind tells whether the place (x over 2, y over 2) is on an edge of the rings, and, if it is not, how often they go
// around it, to the left counted 1, to the right -1; 0, and false, if a point, twice, or the place, twice, is not right.
func Wind(l []api.Ring, x, y int) (n int, on bool) {
	at := api.Point{X: x, Y: y}
	if !plane.Right(at) || !areRight(l) {
		return 0, false
	}
	for p, q := range around(l) {
		// All is told twice, as the place is.
		p, q = twice(p), twice(q)
		if plane.On(at, p, q) {
			return 0, true
		}
		n += passes(p, q, at)
	}
	return n, false
}

// Fills tells whether what is gone around n times is filled.
func Fills(fill, n int) bool {
	switch fill {
	case EvenOdd:
		return n%2 != 0
	case NonZero:
		return n != 0
	}
	return false
}

// Does tells whether a place is in the result, by whether it is in A, and whether it is in B.
func Does(op int, a, b bool) bool {
	switch op {
	case Union:
		return a || b
	case Inter:
		return a && b
	case Diff:
		return a && !b
	case Xor:
		return a != b
	}
	return false
}

// Wants tells whether a place is in the result that A goes around a times, and B b times.
func Wants(j Job, a, b int) bool { return Does(j.Op, Fills(j.Fill, a), Fills(j.Fill, b)) }

// areRight tells whether each point of the rings, twice, is right.
func areRight(l []api.Ring) bool {
	for p := range around(l) {
		// Twice a number goes round, if it is a great one, and could be right then.
		if !plane.Right(p) || !plane.Right(twice(p)) {
			return false
		}
	}
	return true
}

// twice gives the point with both numbers twice as great.
func twice(p api.Point) api.Point { return api.Point{X: 2 * p.X, Y: 2 * p.Y} }

// passes tells how often the edge from p to q passes what lies to the right of a place, upwards counted 1, downwards
// -1. Of its two ends just the lower one is counted as its own, so that edges that go on pass once together.
func passes(p, q, at api.Point) int {
	switch {
	case p.Y <= at.Y && at.Y < q.Y && plane.Turn(p, q, at) > 0:
		return 1
	case q.Y <= at.Y && at.Y < p.Y && plane.Turn(p, q, at) < 0:
		return -1
	}
	return 0
}
