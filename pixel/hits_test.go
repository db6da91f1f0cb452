package pixel

import (
	"math"
	"testing"

	"cobweb/api"
	"cobweb/cross"
	"cobweb/grid"
)

// checkHits holds Hits against what is wanted, with the segment turned round too.
func checkHits(t *testing.T, a, b api.Point, q grid.Pixel, k int, want bool) {
	t.Helper()
	if got := Hits(a, b, q, k); got != want {
		t.Error("P6.2: Hits", a, b, "pixel", q, "rung", k, "is", got)
	}
	if got := Hits(b, a, q, k); got != want {
		t.Error("P6.3: Hits", b, a, "pixel", q, "rung", k, "is", got)
	}
}

func TestPixelsOfRungNought(t *testing.T) {
	a, b := at(0, 0), at(4, 0)
	for x := -2; x <= 6; x++ {
		checkHits(t, a, b, pixelAt(x, 0), 0, x >= 0 && x <= 4)
		checkHits(t, a, b, pixelAt(x, 1), 0, false)
		checkHits(t, a, b, pixelAt(x, -1), 0, false)
	}
	// Corners, at which four pixels come together, are those of the pixel above them, to the right.
	a, b = at(0, 1), at(1, 0)
	checkHits(t, a, b, pixelAt(1, 1), 0, true)
	checkHits(t, a, b, pixelAt(0, 0), 0, false)
	checkHits(t, a, b, pixelAt(0, 1), 0, true)
	checkHits(t, a, b, pixelAt(1, 0), 0, true)
	a, b = at(0, 0), at(1, 1)
	checkHits(t, a, b, pixelAt(1, 0), 0, false)
	checkHits(t, a, b, pixelAt(0, 1), 0, false)
	// It comes to (0, 1), and leaves (1, 0) out, where it is as far up as a half.
	a, b = at(0, 0), at(2, 1)
	checkHits(t, a, b, pixelAt(1, 0), 0, true)
	checkHits(t, a, b, pixelAt(1, 1), 0, true)
	checkHits(t, a, b, pixelAt(0, 1), 0, false)
	checkHits(t, a, b, pixelAt(2, 0), 0, false)
}

func TestPixelsOfOtherRungs(t *testing.T) {
	// Of rung 2, pixel (1, 0) has x from 2 on, below 6, and y from -2 on, below 2.
	q := pixelAt(1, 0)
	for _, x := range []struct {
		ax, ay, bx, by int
		want           bool
	}{
		{2, 0, 2, 0, true}, {1, 0, 1, 0, false}, {5, 1, 5, 1, true}, {6, 0, 6, 0, false}, {3, 2, 3, 2, false}, {3, -2, 3, -2, true}, {3, -3, 3, -3, false},
		{0, 0, 8, 0, true}, {0, 2, 8, 2, false}, {0, -2, 8, -2, true}, {0, -3, 8, -3, false}, {2, -9, 2, 9, true}, {6, -9, 6, 9, false},
		{0, 0, 4, -4, true}, {0, 0, 4, 4, false}, {4, -4, 8, 0, false}, {4, -5, 8, -1, false}, {4, -3, 8, 1, true}, {4, 4, 8, 0, false}, {4, 3, 8, -1, true},
	} {
		checkHits(t, at(x.ax, x.ay), at(x.bx, x.by), q, 2, x.want)
	}
	checkHits(t, at(0, 0), at(4, 0), pixelAt(2, 0), 1, true)
	checkHits(t, at(0, 0), at(4, 0), pixelAt(3, 0), 1, false)
	checkHits(t, at(1, 1), at(1, 1), pixelAt(1, 1), 1, true)
	checkHits(t, at(1, 1), at(1, 1), pixelAt(0, 0), 1, false)
	checkHits(t, at(-1, -1), at(-1, -1), pixelAt(0, 0), 1, true)
	checkHits(t, at(-1, -1), at(-1, -1), pixelAt(-1, -1), 1, false)
}

func TestPixelsOfTheLastRungs(t *testing.T) {
	const f = cross.Far
	corners := []api.Point{at(-f, -f), at(f-1, f-1), at(-f, f-1), at(f-1, -f), at(0, 0)}
	for _, p := range corners {
		checkHits(t, p, p, pixelAt(0, 0), 28, true)
	}
	// A number of Far is in the next pixel of rung 28, which is not In.
	for _, p := range []api.Point{at(f, 0), at(0, f), at(f, f)} {
		checkHits(t, p, p, pixelAt(0, 0), 28, false)
		checkHits(t, p, p, grid.Of(p, 28), 28, false)
		checkHits(t, p, at(0, 0), pixelAt(0, 0), 28, true)
	}
	checkHits(t, at(f, 0), at(f, 0), pixelAt(1, 0), 27, true)
	checkHits(t, at(f/2, 0), at(f/2, 0), pixelAt(1, 0), 27, true)
	checkHits(t, at(f/2-1, 0), at(f/2-1, 0), pixelAt(1, 0), 27, false)
	checkHits(t, at(-f/2, 0), at(-f/2, 0), pixelAt(-1, 0), 27, false)
	checkHits(t, at(-f, -f), at(f, f), pixelAt(1, 1), 27, true)
	checkHits(t, at(-f, -f), at(f, f), pixelAt(-1, -1), 27, true)
	checkHits(t, at(-f, -f), at(f, f), pixelAt(1, -1), 27, false)
	checkHits(t, at(-f, f), at(f, -f), pixelAt(1, -1), 27, true)
	checkHits(t, at(f, f), at(f, f), pixelAt(f, f), 0, true)
	checkHits(t, at(-f, -f), at(-f, -f), pixelAt(-f, -f), 0, true)
}

func TestPixelsThatAreNotIn(t *testing.T) {
	const f = cross.Far
	a, b := at(-f, -f), at(f, f)
	for _, n := range wrongFrom(f) {
		for _, q := range []grid.Pixel{pixelAt(n, 0), pixelAt(0, n), pixelAt(n, n)} {
			checkHits(t, a, b, q, 0, false)
			checkHits(t, at(0, 0), at(0, 0), q, 0, false)
		}
	}
	// Though places of theirs are on the segment.
	checkHits(t, a, b, pixelAt(1, 1), 28, false)
	checkHits(t, at(f, 0), at(0, 0), pixelAt(1, 0), 28, false)
	// Times 2^k these numbers would go round to 0.
	for _, q := range []grid.Pixel{pixelAt(1<<62, 0), pixelAt(0, 1<<62), pixelAt(1<<36, 1<<36), pixelAt(math.MinInt, math.MinInt)} {
		for k := range api.MaxRung + 1 {
			checkHits(t, a, b, q, k, false)
		}
	}
}

func TestNumbersThatAreNoRung(t *testing.T) {
	for _, k := range []int{-1, -2, 29, 30, 63, 64, 1 << 32, math.MaxInt, math.MinInt} {
		checkHits(t, at(0, 0), at(4, 0), pixelAt(0, 0), k, false)
		checkHits(t, at(0, 0), at(0, 0), pixelAt(0, 0), k, false)
	}
}

func TestHitsOfPointsThatAreNotRight(t *testing.T) {
	for _, n := range wrongFrom(cross.Far) {
		for _, p := range []api.Point{at(n, 0), at(0, n), at(n, n)} {
			for _, k := range []int{0, 3, 28} {
				checkHits(t, p, at(0, 0), pixelAt(0, 0), k, false)
				checkHits(t, p, p, grid.Of(p, k), k, false)
			}
		}
	}
}

// slowHits tells whether the segment has a place in the pixel, whose sides, doubled, are told as the words say.
func slowHits(a, b api.Point, q grid.Pixel, k int) bool {
	size := 1 << k
	return slow(a, b, at(size*(2*q.X-1), size*(2*q.Y-1)), at(size*(2*q.X+1), size*(2*q.Y+1)))[0]
}

// TestAllPixelsAround holds all pixels of and around the box of a segment against the words: each that is hit is in
// that box, and the ends' are hit.
func TestAllPixelsAround(t *testing.T) {
	points := pointsFrom(-2, 2)
	for i, a := range points {
		for _, b := range points[i:] {
			for k := range 4 {
				checkAround(t, a, b, k)
			}
		}
	}
	next := mixer()
	for range 300 {
		k := next() & 15
		size := 1 << k
		a := at(number(next, cross.Far-7*size), number(next, cross.Far-7*size))
		checkAround(t, a, at(a.X+next()%(7*size), a.Y+next()%(7*size)), k)
	}
}

// checkAround holds the pixels from one left of, and below, the ends' to one right of, and above, them against the words.
func checkAround(t *testing.T, a, b api.Point, k int) {
	t.Helper()
	p, q := grid.Of(a, k), grid.Of(b, k)
	count := 0
	for x := min(p.X, q.X) - 1; x <= max(p.X, q.X)+1; x++ {
		for y := min(p.Y, q.Y) - 1; y <= max(p.Y, q.Y)+1; y++ {
			r := pixelAt(x, y)
			if !grid.In(r, k) {
				checkHits(t, a, b, r, k, false)
				continue
			}
			want := slowHits(a, b, r, k)
			checkHits(t, a, b, r, k, want)
			between := x >= min(p.X, q.X) && x <= max(p.X, q.X) && y >= min(p.Y, q.Y) && y <= max(p.Y, q.Y)
			if !between && Hits(a, b, r, k) {
				t.Error("P6.3:", a, b, "hits", r, "of rung", k, "which is not between the ends'", p, q)
			}
			if want {
				count++
			}
		}
	}
	if grid.In(p, k) && !Hits(a, b, p, k) || grid.In(q, k) && !Hits(a, b, q, k) {
		t.Error("P6.3:", a, b, "does not hit its ends' pixels", p, q, "of rung", k)
	}
	// Each place is in just one pixel.
	if a == b && count != 1 {
		t.Error("P6.2:", a, "is in", count, "pixels of rung", k)
	}
}

func TestEndsPixelsAreHit(t *testing.T) {
	next := mixer()
	for range 20000 {
		a, b := at(number(next, cross.Far), number(next, cross.Far)), at(number(next, cross.Far), number(next, cross.Far))
		k := next() & 31 % 29
		checkHits(t, a, b, grid.Of(a, k), k, grid.In(grid.Of(a, k), k))
		checkHits(t, a, b, grid.Of(b, k), k, grid.In(grid.Of(b, k), k))
	}
}

// checkNear holds Near against what is wanted, with the segment turned round too.
func checkNear(t *testing.T, a, b, p api.Point, distance int, want bool) {
	t.Helper()
	if got := Near(a, b, p, distance); got != want {
		t.Error("P6.2: Near", a, b, "point", p, "far", distance, "is", got)
	}
	if got := Near(b, a, p, distance); got != want {
		t.Error("P6.3: Near", b, a, "point", p, "far", distance, "is", got)
	}
}

func TestNear(t *testing.T) {
	for _, x := range []struct {
		a, b, p api.Point
		from    int // the least far that it is near for
	}{
		{at(0, 0), at(4, 0), at(2, 0), 0}, {at(0, 0), at(4, 0), at(0, 0), 0}, {at(0, 0), at(4, 0), at(4, 0), 0}, {at(0, 0), at(4, 2), at(2, 1), 0},
		{at(0, 0), at(4, 0), at(2, 1), 2}, {at(0, 0), at(4, 0), at(2, -1), 2}, {at(0, 0), at(4, 0), at(5, 0), 2}, {at(0, 0), at(4, 0), at(-1, 1), 2},
		{at(0, 0), at(4, 0), at(6, 1), 4}, {at(0, 0), at(4, 0), at(5, -3), 6}, {at(0, 0), at(0, 4), at(3, 9), 10},
		// Halves, and thirds.
		{at(0, 1), at(1, 0), at(0, 0), 1}, {at(0, 1), at(1, 0), at(1, 1), 1}, {at(0, 3), at(3, 0), at(0, 0), 3}, {at(0, 3), at(3, 0), at(3, 3), 3},
		{at(0, 1), at(2, 0), at(0, 0), 2}, {at(0, -1), at(-2, 0), at(0, 0), 2}, {at(0, 0), at(3, 1), at(1, 0), 1}, {at(0, 0), at(3, 1), at(2, 1), 1},
		// Points alone.
		{at(3, 4), at(3, 4), at(3, 4), 0}, {at(3, 4), at(3, 4), at(2, 4), 2}, {at(3, 4), at(3, 4), at(5, 9), 10},
	} {
		for distance := range 16 {
			checkNear(t, x.a, x.b, x.p, distance, distance >= x.from)
		}
		checkNear(t, x.a, x.b, x.p, 1<<28, true)
	}
}

func TestNearAtItsGreatestAndBeyond(t *testing.T) {
	const f, most = cross.Far, 1 << 28
	checkNear(t, at(f, f), at(f, f), at(0, 0), most, true)
	checkNear(t, at(f, f), at(f, f), at(0, 0), most-1, false)
	checkNear(t, at(f, f), at(f, f), at(0, -1), most, false)
	checkNear(t, at(f, 0), at(f, 5), at(-1, 0), most, false)
	checkNear(t, at(-f, -f), at(-f, -f), at(0, 0), most, true)
	checkNear(t, at(-f, -f), at(-f, -f), at(1, 0), most, false)
	checkNear(t, at(f, f), at(f, f), at(f, f), most, true)
	checkNear(t, at(-f, f), at(-f, f), at(-f, f), most, true)
	checkNear(t, at(-f, f), at(f, -f), at(-f, -f), most, true)
	checkNear(t, at(-f, f), at(f, -f), at(-f, -f), most-1, false)
	checkNear(t, at(-f, f), at(f, f), at(f, -f), most, false)
	for _, n := range []int{-1, -2, most + 1, most + 2, 2 * most, 1 << 32, -1 << 32, 1<<32 + 2, math.MaxInt, math.MinInt} {
		checkNear(t, at(0, 0), at(4, 0), at(2, 0), n, false)
		checkNear(t, at(0, 0), at(0, 0), at(0, 0), n, false)
		checkNear(t, at(-f, -f), at(f, f), at(f, f), n, false)
	}
}

func TestNearOfPointsThatAreNotRight(t *testing.T) {
	for _, n := range wrongFrom(cross.Far) {
		for _, p := range []api.Point{at(n, 0), at(0, n), at(n, n)} {
			for _, distance := range []int{0, 2, 1 << 28} {
				checkNear(t, at(0, 0), p, at(0, 0), distance, false)
				checkNear(t, p, p, p, distance, false)
				checkNear(t, at(-cross.Far, -cross.Far), at(cross.Far, cross.Far), p, distance, false)
			}
		}
	}
}

func TestMixedNear(t *testing.T) {
	next := mixer()
	came := [2]int{}
	for range 10000 {
		a, b := at(number(next, cross.Far), number(next, cross.Far)), at(number(next, cross.Far), number(next, cross.Far))
		p := at(number(next, cross.Far), number(next, cross.Far))
		distance := number(next, 1<<27) + 1<<27
		want := slow(a, b, at(2*p.X-distance, 2*p.Y-distance), at(2*p.X+distance, 2*p.Y+distance))[1]
		checkNear(t, a, b, p, distance, want)
		if want {
			came[1]++
		} else {
			came[0]++
		}
	}
	if min(came[0], came[1]) < 200 {
		t.Error("near were", came[1], "not near", came[0])
	}
}
