package order

import (
	"math"
	"slices"
	"testing"

	"cobweb/api"
	"cobweb/grid"
	"cobweb/pixel"
)

// at tells the point with these numbers.
func at(x, y int) api.Point { return api.Point{X: x, Y: y} }

// pixels tells the pixels with these numbers.
func pixels(numbers ...[2]int) (l []grid.Pixel) {
	for _, n := range numbers {
		l = append(l, grid.Pixel{X: n[0], Y: n[1]})
	}
	return l
}

// checkAlong holds Along(a, b) against pixels in their order: of each two the first one comes ahead.
func checkAlong(t *testing.T, promise string, a, b api.Point, l []grid.Pixel) {
	t.Helper()
	less := Along(a, b)
	for i, p := range l {
		for j, q := range l {
			if got := less(p, q); got != (i < j) {
				t.Error(promise, "along", a, b, p, "ahead of", q, "is", got)
			}
		}
	}
	turned := slices.Clone(l)
	slices.Reverse(turned)
	if got := Sort(turned, less); !slices.Equal(got, l) {
		t.Error(promise, "along", a, b, "the order is", got, "not", l)
	}
}

func TestAlongAllWays(t *testing.T) {
	rightUp := pixels([2]int{-1, -1}, [2]int{-1, 0}, [2]int{-1, 2}, [2]int{0, -1}, [2]int{0, 0}, [2]int{3, -5}, [2]int{3, 1})
	rightDown := pixels([2]int{-1, 2}, [2]int{-1, 0}, [2]int{-1, -1}, [2]int{0, 0}, [2]int{0, -1}, [2]int{3, 1}, [2]int{3, -5})
	leftUp := pixels([2]int{3, -5}, [2]int{3, 1}, [2]int{0, -1}, [2]int{0, 0}, [2]int{-1, -1}, [2]int{-1, 0}, [2]int{-1, 2})
	leftDown := pixels([2]int{3, 1}, [2]int{3, -5}, [2]int{0, 0}, [2]int{0, -1}, [2]int{-1, 2}, [2]int{-1, 0}, [2]int{-1, -1})
	for _, x := range []struct {
		a, b api.Point
		want []grid.Pixel
	}{
		{at(0, 0), at(5, 3), rightUp}, {at(0, 0), at(1, 9), rightUp}, {at(-4, -4), at(-3, -3), rightUp},
		{at(0, 0), at(5, -3), rightDown}, {at(-1, 0), at(0, -7), rightDown},
		{at(0, 0), at(-5, 3), leftUp}, {at(7, 5), at(6, 6), leftUp},
		{at(0, 0), at(-5, -3), leftDown}, {at(7, 6), at(6, 5), leftDown},
		// Right, up, left and down; what stands still counts as rising.
		{at(0, 0), at(5, 0), rightUp}, {at(0, 0), at(0, 5), rightUp},
		{at(5, 0), at(0, 0), leftUp}, {at(0, 5), at(0, 0), rightDown},
		// One point.
		{at(0, 0), at(0, 0), rightUp}, {at(-3, 8), at(-3, 8), rightUp},
		// As far as numbers go, right or not.
		{at(math.MinInt, math.MinInt), at(math.MaxInt, math.MaxInt), rightUp},
		{at(math.MinInt, math.MaxInt), at(math.MaxInt, math.MinInt), rightDown},
		{at(math.MaxInt, math.MinInt), at(math.MinInt, math.MaxInt), leftUp},
		{at(math.MaxInt, math.MaxInt), at(math.MinInt, math.MinInt), leftDown},
	} {
		checkAlong(t, "P7.3:", x.a, x.b, x.want)
	}
}

func TestAlongPixelsThatAreFar(t *testing.T) {
	low, high := math.MinInt, math.MaxInt
	all := pixels([2]int{low, low}, [2]int{low, high}, [2]int{0, low}, [2]int{0, high}, [2]int{high, low}, [2]int{high, high})
	checkAlong(t, "P7.3:", at(0, 0), at(1, 1), all)
	slices.Reverse(all)
	checkAlong(t, "P7.3:", at(0, 0), at(-1, -1), all)
}

// steps is such that, of segments among numbers no more than 6 apart, every place at which a pixel's side is come to is
// a whole number of steps away from the first end, and an even one: so between any two that differ there is a step too.
const steps = 240

// cellOf tells the X of the pixels of rung k in which places with x n over steps are.
func cellOf(n, k int) int {
	size := steps << k
	n += size / 2
	if n < 0 {
		n -= size - 1
	}
	return n / size
}

// slowWalk tells the pixels of rung k that a segment comes to, the first one first.
func slowWalk(a, b api.Point, k int) (l []grid.Pixel) {
	for i := range steps + 1 {
		q := grid.Pixel{X: cellOf(a.X*steps+i*(b.X-a.X), k), Y: cellOf(a.Y*steps+i*(b.Y-a.Y), k)}
		if len(l) == 0 || q != l[len(l)-1] {
			l = append(l, q)
		}
	}
	return l
}

// TestAlongWhatIsMet goes through all segments among 49 points, and the pixels that they meet on three rungs.
func TestAlongWhatIsMet(t *testing.T) {
	for i := range 49 {
		for j := range 49 {
			a, b := at(i/7-3, i%7-3), at(j/7-3, j%7-3)
			for k := range 3 {
				want := slowWalk(a, b, k)
				var met []grid.Pixel
				for n := range 81 {
					if q := (grid.Pixel{X: n/9 - 4, Y: n%9 - 4}); pixel.Hits(a, b, q, k) {
						met = append(met, q)
					}
				}
				if got := Sort(met, Along(a, b)); !slices.Equal(got, want) {
					t.Fatal("P7.4: of", a, b, "rung", k, "the order of pixels is", got, "not", want)
				}
				checkAlong(t, "P7.4:", a, b, want)
			}
		}
	}
}
