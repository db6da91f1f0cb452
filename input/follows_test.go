package input

import (
	"slices"
	"testing"

	"cobweb/api"
)

// shapes tells lists of rings of all kinds.
func shapes() [][]api.Ring {
	l := [][]api.Ring{
		rings(square(0, 6)),
		rings(square(0, 6), ring(2, 2, 2, 4, 4, 4, 4, 2)),
		rings(ring(0, 0, 4, 4, 4, 0, 0, 4)),
		rings(ring(0, 6, -4, -5, 6, 2, -6, 2, 4, -5)),
		rings(ring(0, 0, 2, 0, 2, 1, 5, 1, 2, 1, 2, 2, 0, 2), ring(1, 1)),
		rings(ring(0, 0, 4, 0, 4, 4, -1, 4, -1, -1, 6, -1, 6, 6, 0, 6), nil, ring(0, 3, 5, 3)),
	}
	next := mixer()
	for range 40 {
		var r api.Ring
		for range 3 + below(next)(9) {
			r = append(r, at(next()%8, next()%8))
		}
		l = append(l, rings(r, ring(-3, -3, 3, -2, 1, 7)))
	}
	return l
}

// checkAll holds Wind of rings, at places that to makes, against what it is of others, times sign.
func checkAll(t *testing.T, name string, l, m []api.Ring, sign int, to func(x, y int) (int, int)) {
	t.Helper()
	for x := -17; x <= 17; x++ {
		for y := -17; y <= 17; y++ {
			n, on := Wind(l, x, y)
			atX, atY := to(x, y)
			if k, is := Wind(m, atX, atY); k != sign*n || is != on {
				t.Fatal("P11.5:", l, "at", x, y, "is gone around", n, on, "and", name, k, is)
			}
		}
	}
}

// stay leaves a place where it is.
func stay(x, y int) (int, int) { return x, y }

// TestBegunElsewhere begins rings at each of their points.
func TestBegunElsewhere(t *testing.T) {
	for _, l := range shapes() {
		for by := range 12 {
			m := apart(l)
			for i, r := range m {
				if len(r) > 0 {
					m[i] = slices.Concat(r[by%len(r):], r[:by%len(r)])
				}
			}
			checkAll(t, "begun elsewhere", l, m, 1, stay)
		}
	}
}

func TestOtherWay(t *testing.T) {
	for _, l := range shapes() {
		m := apart(l)
		for _, r := range m {
			slices.Reverse(r)
		}
		checkAll(t, "the other way round", l, m, -1, stay)
	}
}

// TestTurned turns rings, and places, to the left, to the right, half around, and over.
func TestTurned(t *testing.T) {
	for _, x := range []struct {
		name string
		sign int
		to   func(x, y int) (int, int)
	}{
		{"to the left", 1, func(x, y int) (int, int) { return -y, x }},
		{"to the right", 1, func(x, y int) (int, int) { return y, -x }},
		{"half around", 1, func(x, y int) (int, int) { return -x, -y }},
		{"over to the left", -1, func(x, y int) (int, int) { return -x, y }},
		{"upside down", -1, func(x, y int) (int, int) { return x, -y }},
		{"over", -1, func(x, y int) (int, int) { return y, x }},
		{"aslant", 1, func(x, y int) (int, int) { return x + 3*y, y }},
		{"twice as great", 1, func(x, y int) (int, int) { return 2 * x, 2 * y }},
	} {
		for _, l := range shapes() {
			checkAll(t, "turned "+x.name, l, moved(l, func(p api.Point) api.Point { return at(x.to(p.X, p.Y)) }), x.sign, x.to)
		}
	}
}

func TestMoved(t *testing.T) {
	for _, by := range []api.Point{at(1, 0), at(0, -1), at(-77, 13), at(1<<28-40, 40-1<<28), at(-1<<28+40, 1<<28-40)} {
		for _, l := range shapes() {
			m := moved(l, func(p api.Point) api.Point { return at(p.X+by.X, p.Y+by.Y) })
			checkAll(t, "moved", l, m, 1, func(x, y int) (int, int) { return x + 2*by.X, y + 2*by.Y })
		}
	}
}

// TestTogether goes around rings together, and one by one, in any order.
func TestTogether(t *testing.T) {
	all := shapes()
	for i, l := range all {
		m := all[(i*7+3)%len(all)]
		together, turned := slices.Concat(l, m), slices.Concat(m, l)
		for x := -17; x <= 17; x++ {
			for y := -17; y <= 17; y++ {
				n, on := Wind(l, x, y)
				k, is := Wind(m, x, y)
				want := n + k
				if on || is {
					want = 0
				}
				both, isBoth := Wind(together, x, y)
				if both != want || isBoth != (on || is) {
					t.Fatal("P11.3:", l, "and", m, "at", x, y, "are gone around", both, isBoth, "and not", want)
				}
				if n, isTurned := Wind(turned, x, y); n != both || isTurned != isBoth {
					t.Fatal("P11.3:", l, "and", m, "at", x, y, "the other one first:", n, isTurned)
				}
			}
		}
	}
}
