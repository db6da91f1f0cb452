package input

import (
	"math"
	"math/big"
	"testing"

	"cobweb/api"
)

// plane29 is how far the numbers of a place, twice, may be.
const plane29 = 1 << 29

// place is one by twice its numbers, and how often it is gone around there, or that it is on an edge.
type place struct {
	x, y, n int
	on      bool
}

// checkPlaces holds Wind of rings against what is wanted at places.
func checkPlaces(t *testing.T, name string, l []api.Ring, places ...place) {
	t.Helper()
	for _, p := range places {
		if n, on := Wind(l, p.x, p.y); n != p.n || on != p.on {
			t.Error("P11.3:", name, "at", p.x, p.y, "is gone around", n, on, "and not", p.n, p.on)
		}
	}
}

// square tells a square's corners, to the left.
func square(low, high int) api.Ring { return ring(low, low, high, low, high, high, low, high) }

func TestExample(t *testing.T) {
	checkPlaces(t, "the example", rings(ring(0, 0, 2, 0, 2, 2, 0, 2)), place{2, 2, 1, false})
}

func TestWindSquare(t *testing.T) {
	checkPlaces(t, "a square", rings(square(0, 2)),
		place{1, 1, 1, false}, place{3, 3, 1, false}, place{1, 3, 1, false},
		place{0, 0, 0, true}, place{4, 0, 0, true}, place{4, 4, 0, true}, place{0, 4, 0, true},
		place{1, 0, 0, true}, place{2, 0, 0, true}, place{4, 3, 0, true}, place{0, 1, 0, true}, place{3, 4, 0, true},
		place{-1, 0, 0, false}, place{-1, 1, 0, false}, place{-1, 4, 0, false}, place{-4, 2, 0, false},
		place{5, 0, 0, false}, place{5, 2, 0, false}, place{5, 4, 0, false}, place{9, 3, 0, false},
		place{2, -1, 0, false}, place{2, 5, 0, false}, place{-1, -1, 0, false}, place{5, 5, 0, false})
}

// TestWindCorners has places left, right and within, level with corners at which a ring goes on, or turns back.
func TestWindCorners(t *testing.T) {
	diamond := ring(0, -2, 2, 0, 0, 2, -2, 0)
	checkPlaces(t, "a diamond", rings(diamond),
		place{0, 0, 1, false}, place{-5, 0, 0, false}, place{5, 0, 0, false}, place{-4, 0, 0, true}, place{-3, 0, 1, false},
		place{-1, 4, 0, false}, place{1, 4, 0, false}, place{-1, -4, 0, false}, place{1, -4, 0, false}, place{0, 4, 0, true},
		place{-2, 2, 0, true}, place{-2, 1, 1, false}, place{-3, 2, 0, false})
	teeth := ring(0, 0, 8, 0, 6, 2, 4, 0, 2, 2)
	checkPlaces(t, "teeth", rings(teeth),
		place{-2, 0, 0, false}, place{18, 0, 0, false}, place{-2, 4, 0, false}, place{8, 4, 0, false}, place{18, 4, 0, false},
		place{4, 2, 1, false}, place{8, 2, 0, false}, place{12, 2, 1, false}, place{8, 0, 0, true}, place{4, 4, 0, true}, place{8, 1, 0, false})
	steps := ring(0, 0, 3, 0, 3, 1, 2, 1, 2, 2, 1, 2, 1, 3, 0, 3)
	checkPlaces(t, "steps", rings(steps),
		place{1, 1, 1, false}, place{1, 2, 1, false}, place{1, 4, 1, false}, place{5, 1, 1, false}, place{5, 2, 0, true}, place{5, 3, 0, false},
		place{-1, 2, 0, false}, place{7, 2, 0, false}, place{3, 2, 1, false}, place{5, 4, 0, false}, place{3, 4, 0, true})
}

func TestWindHoles(t *testing.T) {
	hole := ring(2, 2, 2, 4, 4, 4, 4, 2)
	checkPlaces(t, "a square with a hole", rings(square(0, 6), hole),
		place{6, 6, 0, false}, place{2, 2, 1, false}, place{10, 6, 1, false}, place{4, 6, 0, true}, place{12, 6, 0, true}, place{13, 6, 0, false})
	checkPlaces(t, "a square in a square", rings(square(0, 6), square(2, 4)),
		place{6, 6, 2, false}, place{2, 2, 1, false}, place{10, 6, 1, false}, place{4, 6, 0, true})
	checkPlaces(t, "a hole alone", rings(hole), place{6, 6, -1, false}, place{2, 2, 0, false}, place{8, 5, 0, true})
	checkPlaces(t, "a square, and itself the other way", rings(square(0, 2), ring(0, 0, 0, 2, 2, 2, 2, 0)), place{2, 2, 0, false}, place{4, 2, 0, true})
	checkPlaces(t, "a square, thrice", rings(square(0, 2), square(0, 2), square(0, 2)), place{2, 2, 3, false})
}

func TestWindCrossed(t *testing.T) {
	checkPlaces(t, "an eight", rings(ring(0, 0, 4, 4, 4, 0, 0, 4)),
		place{1, 4, 1, false}, place{7, 4, -1, false}, place{4, 1, 0, false}, place{4, 7, 0, false}, place{4, 4, 0, true}, place{3, 3, 0, true})
	star := ring(0, 6, -4, -5, 6, 2, -6, 2, 4, -5)
	checkPlaces(t, "a star", rings(star), place{0, 0, 2, false}, place{0, 9, 1, false}, place{1, 4, 0, true}, place{10, 10, 0, false}, place{0, -8, 0, false}, place{-9, 4, 0, true}, place{-9, 3, 1, false})
	checkPlaces(t, "twice around", rings(ring(0, 0, 2, 0, 2, 2, 0, 2, 0, 0, 2, 0, 2, 2, 0, 2)), place{2, 2, 2, false}, place{-1, 2, 0, false}, place{0, 2, 0, true})
	checkPlaces(t, "twice around, wider then", rings(ring(0, 0, 4, 0, 4, 4, -1, 4, -1, -1, 6, -1, 6, 6, 0, 6)), place{2, 2, 2, false}, place{10, 4, 1, false}, place{-1, 4, 1, false}, place{-2, 4, 0, true})
	checkPlaces(t, "there and back", rings(ring(0, 0, 4, 2, 8, 4, 4, 2)), place{8, 4, 0, true}, place{4, 2, 0, true}, place{4, 3, 0, false}, place{17, 8, 0, false}, place{-1, 0, 0, false}, place{16, 8, 0, true})
	checkPlaces(t, "a square with a spike", rings(ring(0, 0, 2, 0, 2, 1, 5, 1, 2, 1, 2, 2, 0, 2)), place{2, 2, 1, false}, place{7, 2, 0, true}, place{10, 2, 0, true}, place{11, 2, 0, false}, place{-1, 2, 0, false}, place{7, 3, 0, false})
}

func TestWindLittle(t *testing.T) {
	checkPlaces(t, "no ring", nil, place{0, 0, 0, false}, place{plane29, -plane29, 0, false})
	checkPlaces(t, "rings of no point", rings(nil, api.Ring{}), place{0, 0, 0, false})
	checkPlaces(t, "one point", rings(ring(3, -2)), place{6, -4, 0, true}, place{5, -4, 0, false}, place{7, -4, 0, false}, place{6, -3, 0, false}, place{6, -5, 0, false}, place{0, 0, 0, false}, place{3, -2, 0, false})
	checkPlaces(t, "one point, thrice", rings(ring(3, -2, 3, -2, 3, -2)), place{6, -4, 0, true}, place{6, -5, 0, false})
	checkPlaces(t, "two points", rings(ring(0, 0, 3, 1)), place{3, 1, 0, true}, place{6, 2, 0, true}, place{0, 0, 0, true}, place{2, 1, 0, false}, place{4, 1, 0, false}, place{-3, -1, 0, false}, place{9, 3, 0, false})
	checkPlaces(t, "a square with edges of one point", rings(ring(0, 0, 0, 0, 2, 0, 2, 2, 2, 2, 2, 2, 0, 2, 0, 0)), place{2, 2, 1, false}, place{0, 0, 0, true}, place{4, 4, 0, true}, place{-1, 0, 0, false}, place{-1, 4, 0, false}, place{5, 4, 0, false}, place{4, 1, 0, true})
	checkPlaces(t, "one point within a square", rings(square(0, 4), ring(2, 2), nil), place{4, 4, 0, true}, place{4, 5, 1, false}, place{3, 4, 1, false})
	checkPlaces(t, "a little triangle", rings(ring(0, 0, 1, 0, 0, 1)), place{1, 1, 0, true}, place{1, 0, 0, true}, place{0, 1, 0, true}, place{2, 2, 0, false}, place{-1, -1, 0, false})
	checkPlaces(t, "a thin triangle", rings(ring(0, 0, 2, 1, 1, 1)), place{2, 1, 0, true}, place{1, 1, 0, true}, place{3, 2, 0, true}, place{2, 2, 0, true}, place{3, 1, 0, false}, place{1, 0, 0, false})
}

// TestWindFar has points, and places, as far as they may be, and just beyond that.
func TestWindFar(t *testing.T) {
	far := plane29 / 2
	l := rings(square(-far, far))
	checkPlaces(t, "the greatest square", l,
		place{0, 0, 1, false}, place{plane29 - 1, 1 - plane29, 1, false},
		place{plane29, 0, 0, true}, place{-plane29, 7, 0, true}, place{plane29, plane29, 0, true}, place{-plane29, plane29, 0, true}, place{5, -plane29, 0, true})
	checkPlaces(t, "a great triangle", rings(ring(-far, -far, far, -far, far, far)),
		place{0, 0, 0, true}, place{1, 0, 1, false}, place{0, 1, 0, false}, place{plane29 - 1, plane29 - 2, 1, false}, place{plane29 - 1, plane29 - 1, 0, true}, place{plane29 - 2, plane29 - 1, 0, false}, place{1 - plane29, 2 - plane29, 0, false})
	checkPlaces(t, "a place that is not right", l,
		place{plane29 + 1, 0, 0, false}, place{0, plane29 + 1, 0, false}, place{-plane29 - 1, 0, 0, false}, place{0, -plane29 - 1, 0, false}, place{1 << 30, 1 << 30, 0, false},
		place{1 << 32, 0, 0, false}, place{0, 1 << 32, 0, false}, place{math.MaxInt, 0, 0, false}, place{0, math.MinInt, 0, false}, place{math.MinInt, math.MaxInt, 0, false})
}

// TestWindWrong puts points that are not right into each place of rings: nothing is on them, and gone around.
func TestWindWrong(t *testing.T) {
	l := rings(square(0, 4), nil, ring(1, 1), square(1, 3), ring(0, 9, 9, 9))
	checkPlaces(t, "rings that are right", l, place{4, 4, 2, false}, place{1, 1, 1, false}, place{8, 8, 0, true}, place{2, 2, 0, true}, place{9, 18, 0, true}, place{9, 9, 0, false})
	for r := range l {
		for p := range l[r] {
			for _, n := range []int{1<<28 + 1, -1<<28 - 1, 1 << 29, 1<<29 + 1, -1 << 29, 1 << 30, 1 << 32, 1 << 62, -1 << 62, 1<<62 + 1, math.MaxInt, math.MinInt, math.MinInt + 1, math.MinInt + 2} {
				for _, to := range []api.Point{at(n, 0), at(0, n), at(n, n), at(1<<28, n), at(n, -1<<28)} {
					wrong := apart(l)
					wrong[r][p] = to
					checkPlaces(t, "a point that is not right", wrong, place{4, 4, 0, false}, place{1, 1, 0, false}, place{8, 8, 0, false}, place{2, 2, 0, false}, place{9, 18, 0, false}, place{9, 9, 0, false})
				}
			}
		}
	}
	for _, n := range []int{1 << 28, -1 << 28} {
		wrong := rings(square(-1, 1), ring(0, n, n, 0, n, n, 0, 9))
		checkPlaces(t, "a point that is just right", wrong, place{2, 0, 0, true}, place{n * 2, n * 2, 0, true}, place{n * 2, 0, 0, true})
	}
}

// corner is a place as a corner sees it, exactly.
type corner struct{ x, y *big.Int }

// seen tells where p is, twice, as the place sees it.
func seen(p api.Point, x, y int) corner {
	from := func(n, m int) *big.Int {
		twice := new(big.Int).Lsh(big.NewInt(int64(n)), 1)
		return twice.Sub(twice, big.NewInt(int64(m)))
	}
	return corner{x: from(p.X, x), y: from(p.Y, y)}
}

// quarter tells in which quarter of all around c is, each with the one of its two sides that is the first one to the left.
func (c corner) quarter() int {
	switch {
	case c.x.Sign() > 0 && c.y.Sign() >= 0:
		return 0
	case c.x.Sign() <= 0 && c.y.Sign() > 0:
		return 1
	case c.x.Sign() < 0:
		return 2
	}
	return 3
}

// side tells 1, if d is to the left of c; -1, if it is to the right; else 0.
func side(c, d corner) int {
	m, n := new(big.Int).Mul(c.x, d.y), new(big.Int).Mul(c.y, d.x)
	return m.Cmp(n)
}

// between tells whether the place that sees them is on the segment from c to d.
func between(c, d corner) bool {
	m, n := new(big.Int).Mul(c.x, d.x), new(big.Int).Mul(c.y, d.y)
	return side(c, d) == 0 && m.Add(m, n).Sign() <= 0
}

// slowWind tells what Wind is, of what is right, by the quarters that the rings go through.
func slowWind(l []api.Ring, x, y int) (n int, on bool) {
	quarters := 0
	for _, r := range l {
		for i := range r {
			c, d := seen(r[i], x, y), seen(r[(i+1)%len(r)], x, y)
			if between(c, d) {
				return 0, true
			}
			switch (d.quarter() - c.quarter() + 4) % 4 {
			case 1:
				quarters++
			case 3:
				quarters--
			case 2:
				quarters += 2 * side(c, d)
			}
		}
	}
	return quarters / 4, false
}

// TestWindAll goes through all rings of up to four points out of nine, and all places within, on, and about them.
func TestWindAll(t *testing.T) {
	for points := 1; points <= 4; points++ {
		count := 1
		for range points {
			count *= 9
		}
		for code := range count {
			var r api.Ring
			for i, c := 0, code; i < points; i, c = i+1, c/9 {
				r = append(r, at(c%9/3, c%9%3))
			}
			l := rings(r)
			for x := -1; x <= 5; x++ {
				for y := -1; y <= 5; y++ {
					n, on := Wind(l, x, y)
					if m, is := slowWind(l, x, y); n != m || on != is {
						t.Fatal("P11.3: ", r, "at", x, y, "is gone around", n, on, "and not", m, is)
					}
				}
			}
		}
	}
}

// TestWindMixed has rings of many points, near and far, and places near their points, and on their edges.
func TestWindMixed(t *testing.T) {
	next := mixer()
	less := below(next)
	ons, most := 0, 0
	for i := range 20000 {
		size := 4 << (i % 27)
		number := func() int {
			if n := next(); n&7 != 0 {
				return n % (size + 1)
			}
			return size * (less(3) - 1)
		}
		var l []api.Ring
		for range less(4) {
			var r api.Ring
			for range less(12) {
				r = append(r, at(number(), number()))
			}
			l = append(l, r)
		}
		x, y := number()*2, number()*2
		for p, q := range around(l) {
			switch less(8) {
			case 0:
				x, y = p.X+q.X, p.Y+q.Y
			case 1:
				x, y = x+less(3)-1, 2*p.Y
			}
		}
		x, y = min(max(x, -2*size), 2*size), min(max(y, -2*size), 2*size)
		n, on := Wind(l, x, y)
		if m, is := slowWind(l, x, y); n != m || on != is {
			t.Fatal("P11.3: ", l, "at", x, y, "is gone around", n, on, "and not", m, is)
		}
		most = max(most, n)
		if on {
			ons++
		}
	}
	if ons < 1000 || most < 2 {
		t.Error("P11.3: too few places are on edges, or within:", ons, most)
	}
}
