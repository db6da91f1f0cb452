package chain

import (
	"math"
	"testing"

	"cobweb/api"
	"cobweb/grid"
)

// steps is such that, of segments that go 4 at most, in x and in y, every place at which a whole number, or a half, is
// come to is a whole number of steps away from the first end.
const steps = 24

// nearSteps tells at which steps of the segment it is no farther than far over 2 from the center of q: a bit each.
func nearSteps(a, b api.Point, q grid.Pixel, k, far int) (near uint32) {
	size := 1 << k
	for i := range steps + 1 {
		x := a.X*steps + i*(b.X-a.X) - q.X*size*steps
		y := a.Y*steps + i*(b.Y-a.Y) - q.Y*size*steps
		if 2*max(x, -x, y, -y) <= far*steps {
			near |= 1 << i
		}
	}
	return near
}

// nowAndLater tells the steps that come, and all behind the first one of them.
func nowAndLater(come uint32) uint32 {
	for range steps {
		come |= come << 1
	}
	return come & (1<<(steps+1) - 1)
}

// slowClose tells whether one can go along vertices at whose steps the segment is near.
func slowClose(near []uint32) bool {
	come := uint32(1) & near[0]
	for _, n := range near[1:] {
		come = nowAndLater(come) & n
	}
	return nowAndLater(come)&near[len(near)-1]&(1<<steps) != 0
}

// checkSmall goes along all chains of n of these pixels, along all segments among these points.
func checkSmall(t *testing.T, pixels []grid.Pixel, n int, points []grid.Pixel, k int, fars ...int) {
	t.Helper()
	numbers := make([]int, len(pixels))
	for i := range numbers {
		numbers[i] = i
	}
	c, near, all := Chain{V: make([]grid.Pixel, n)}, make([]uint32, n), make([]uint32, len(pixels))
	told := map[bool]int{}
	for _, p := range points {
		for _, q := range points {
			a, b := point(p.X, p.Y), point(q.X, q.Y)
			for _, far := range fars {
				for i, v := range pixels {
					all[i] = nearSteps(a, b, v, k, far)
				}
				eachRow(numbers, n, func(l []int) {
					for i, m := range l {
						c.V[i], near[i] = pixels[m], all[m]
					}
					want := slowClose(near)
					told[want]++
					if got := Close(c, a, b, k, far); got != want {
						t.Fatal("P10.3: Close", c.V, a, b, k, far, "is", got)
					}
				})
			}
		}
	}
	if told[true] == 0 || told[false] == 0 {
		t.Error("of", n, "vertices, on rung", k, "it was told", told)
	}
}

// TestCloseSmall goes along all chains of few vertices near 0, and all segments of numbers no more than 4 apart.
func TestCloseSmall(t *testing.T) {
	points := square(-2, 2)
	for n := 1; n <= 2; n++ {
		checkSmall(t, square(-2, 2), n, points, 0, 0, 1, 2, 3, 4, 5)
		checkSmall(t, square(-1, 1), n, points, 1, 0, 1, 2, 3, 4, 7)
		checkSmall(t, square(-1, 1), n, points, 2, 0, 1, 3, 4, 8, 9)
	}
	checkSmall(t, square(-1, 1), 3, points, 0, 0, 1, 2, 3)
	checkSmall(t, square(-1, 1), 3, points, 1, 1, 2, 3, 5)
	checkSmall(t, square(-1, 1), 4, row(-2, -1, 0, 2, 1, 0), 0, 1, 2, 3)
	checkSmall(t, square(-1, 1), 4, row(-2, 2, 2, -1, 2, 2), 1, 2, 4)
	checkSmall(t, row(0, 0, 1, 0, 0, 1, -1, -1), 5, row(-2, -1, 2, 1, 1, 2), 0, 1, 2, 3)
}

func TestCloseLines(t *testing.T) {
	for i, x := range []struct {
		v      []grid.Pixel
		a, b   api.Point
		k, far int
		is     bool
	}{
		// Right, left, up, down.
		{row(0, 0, 4, 0), point(0, 0), point(4, 0), 0, 0, true},
		{row(4, 0, 0, 0), point(4, 0), point(0, 0), 0, 0, true},
		{row(4, 0, 0, 0), point(0, 0), point(4, 0), 0, 7, false},
		{row(4, 0, 0, 0), point(0, 0), point(4, 0), 0, 8, true},
		{row(0, 0, 0, 4), point(0, 0), point(0, 4), 0, 0, true},
		{row(0, 4, 0, 0), point(0, 4), point(0, 0), 0, 0, true},
		// The document's chain is half a pixel beside its edge, and more: 1 off, in y, in its middle.
		{row(0, 0, 2, 1, 4, 0), point(0, 0), point(4, 0), 0, 1, false},
		{row(0, 0, 2, 1, 4, 0), point(0, 0), point(4, 0), 0, 2, true},
		{row(0, 0, 2, -1, 4, 0), point(0, 0), point(4, 0), 0, 2, true},
		{row(0, 0, 2, 1, 4, 0), point(4, 0), point(0, 0), 0, 2, false},
		// What goes back on the segment: so far as it is near both, and no farther.
		{row(0, 0, 3, 0, 2, 0, 5, 0), point(0, 0), point(5, 0), 0, 0, false},
		{row(0, 0, 3, 0, 2, 0, 5, 0), point(0, 0), point(5, 0), 0, 1, true},
		{row(0, 0, 4, 0, 2, 0, 5, 0), point(0, 0), point(5, 0), 0, 1, false},
		{row(0, 0, 4, 0, 2, 0, 5, 0), point(0, 0), point(5, 0), 0, 2, true},
		{row(0, 0, 4, 0, 3, 0, 2, 0, 5, 0), point(0, 0), point(5, 0), 0, 1, false},
		{row(0, 0, 4, 0, 3, 0, 2, 0, 5, 0), point(0, 0), point(5, 0), 0, 2, true},
		{row(5, 5, 1, 1, 2, 2, 0, 0), point(5, 5), point(0, 0), 0, 1, true},
		{row(5, 5, 1, 1, 3, 3, 0, 0), point(5, 5), point(0, 0), 0, 1, false},
		// Ahead of the one end, and behind the other one: on the line, but on no place of the segment.
		{row(0, 0, -1, 0, 4, 0), point(0, 0), point(4, 0), 0, 1, false},
		{row(0, 0, -1, 0, 4, 0), point(0, 0), point(4, 0), 0, 2, true},
		{row(0, 0, 5, 0, 4, 0), point(0, 0), point(4, 0), 0, 1, false},
		{row(0, 0, 5, 0, 4, 0), point(0, 0), point(4, 0), 0, 2, true},
		{row(0, 0, 5, 5, 4, 4), point(0, 0), point(4, 4), 0, 1, false},
		{row(4, 4, 5, 5, 0, 0), point(4, 4), point(0, 0), 0, 1, false},
		// In x just ahead of where it is near in y.
		{row(0, 0, 1, 3, 4, 4), point(0, 0), point(4, 4), 0, 1, false},
		{row(0, 0, 1, 3, 4, 4), point(0, 0), point(4, 4), 0, 2, true},
		{row(0, 0, 3, 1, 4, 4), point(0, 0), point(4, 4), 0, 1, false},
		{row(0, 0, 3, 1, 4, 4), point(0, 0), point(4, 4), 0, 2, true},
		// The ends, and none else, have to be come to.
		{row(1, 0, 4, 0), point(0, 0), point(4, 0), 0, 1, false},
		{row(1, 0, 4, 0), point(0, 0), point(4, 0), 0, 2, true},
		{row(0, 0, 3, 0), point(0, 0), point(4, 0), 0, 1, false},
		{row(0, 0, 3, 0), point(0, 0), point(4, 0), 0, 2, true},
		{row(0, 0, 4, 1), point(0, 0), point(4, 0), 0, 1, false},
		{row(0, 0, 9, 0), point(0, 0), point(9, 0), 0, 0, true},
		// A vertex alone: both a and b.
		{row(0, 0), point(0, 0), point(0, 0), 0, 0, true},
		{row(0, 0), point(1, 0), point(-1, 0), 0, 2, true},
		{row(0, 0), point(1, 0), point(-1, 0), 0, 1, false},
		{row(0, 0), point(2, 0), point(0, 0), 0, 3, false},
		{row(0, 0), point(0, 0), point(2, 0), 0, 3, false},
		{row(0, 0), point(0, 0), point(0, 2), 0, 3, false},
		{row(0, 0), point(0, -2), point(0, 2), 0, 4, true},
		{row(0, 0), point(2, 2), point(2, 2), 0, 3, false},
		// A segment that is one point: all vertices.
		{row(0, 0, 1, 0, 0, 0), point(0, 0), point(0, 0), 0, 1, false},
		{row(0, 0, 1, 0, 0, 0), point(0, 0), point(0, 0), 0, 2, true},
		{row(0, 0, 0, 1, 0, 0), point(0, 0), point(0, 0), 0, 1, false},
		{row(0, 0, 0, 1, 2, 0), point(1, 0), point(1, 0), 0, 2, true},
		{row(0, 0, 0, 2, 2, 0), point(1, 0), point(1, 0), 0, 3, false},
		// The same vertices on other rungs.
		{row(0, 0, 2, 1, 4, 0), point(0, 0), point(8, 0), 1, 3, false},
		{row(0, 0, 2, 1, 4, 0), point(0, 0), point(8, 0), 1, 4, true},
		{row(0, 0, 2, 1, 4, 0), point(0, 0), point(64, 0), 4, 31, false},
		{row(0, 0, 2, 1, 4, 0), point(0, 0), point(64, 0), 4, 32, true},
		{row(0, 0, 1, 0), point(0, 0), point(1<<27, 0), 27, 0, true},
		{row(0, 0, 1, 0), point(0, 0), point(1<<27-1, 0), 27, 1, false},
		{row(0, 0, 1, 0), point(0, 0), point(1<<27-1, 0), 27, 2, true},
		// Of edges as long as may be, that are just not as wide as high: it is a hair too late, at the end, or just so.
		{row(-1<<27, -1<<27, 1<<27, 1<<27-2, 1<<27, 1<<27-1), point(-1<<27, -1<<27), point(1<<27, 1<<27-1), 0, 1, false},
		{row(-1<<27, -1<<27, 1<<27, 1<<27-1, 1<<27, 1<<27), point(-1<<27, -1<<27), point(1<<27, 1<<27), 0, 1, true},
		{row(-1<<27, -1<<27, 1<<27-1, 1<<27-1, 1<<27-1, 1<<27), point(-1<<27, -1<<27), point(1<<27-1, 1<<27), 0, 1, true},
		{row(-1<<27, -1<<27, 1<<27-2, 1<<27, 1<<27-1, 1<<27), point(-1<<27, -1<<27), point(1<<27-1, 1<<27), 0, 1, false},
		{row(0, 0), point(1<<27, -1<<27), point(-1<<27, 1<<27), 28, 1<<28 - 1, false},
		{row(0, 0), point(1<<27, -1<<27), point(-1<<27, 1<<27), 28, 1 << 28, true},
	} {
		if got := Close(through(x.v...), x.a, x.b, x.k, x.far); got != x.is {
			t.Error("P10.3: line", i, "is", got)
		}
		if got := Close(Chain{V: x.v, D: []int{-4, 0, 7}}, x.a, x.b, x.k, x.far); got != x.is {
			t.Error("P10.3: line", i, "with other depths is", got)
		}
	}
}

// TestCloseWrong hands in all that is not such as may be, one thing at a time, of what is close otherwise.
func TestCloseWrong(t *testing.T) {
	v, a, b := row(0, 0, 1, 0, 2, 0), point(0, 0), point(2, 0)
	if !Close(through(v...), a, b, 0, 1<<28) {
		t.Error("P10.3: it is not close, all being right")
	}
	for _, far := range []int{-1, -2, 1<<28 + 1, 1<<28 + 2, 1 << 29, 1 << 32, 1<<32 + 4, math.MaxInt, math.MinInt, math.MinInt + 4} {
		for _, c := range []Chain{through(v...), through(v[0]), through(v[:2]...)} {
			if Close(c, a, b, 0, far) {
				t.Error("P10.3: Close with far", far)
			}
		}
	}
	for _, far := range []int{0, 1 << 28} {
		if Close(Chain{}, a, b, 0, far) || Close(Chain{V: []grid.Pixel{}, D: []int{1}}, a, a, 0, far) {
			t.Error("P10.3: Close of no vertex")
		}
		if !Close(through(v[0]), a, a, 0, far) {
			t.Error("P10.3: it is not close with far", far)
		}
		for _, k := range []int{-1, -28, 29, 30, 64, 1 << 32, math.MaxInt, math.MinInt} {
			if Close(through(v[0]), a, a, k, far) || Close(through(v[0]), a, b, k, far) {
				t.Error("P10.3: Close of no rung", k)
			}
		}
	}
}

// TestCloseNotRight goes along segments whose points are not right, and chains with vertices that are not In.
func TestCloseNotRight(t *testing.T) {
	const far = 1 << 28
	for _, n := range []int{1<<27 + 1, -1<<27 - 1, 1 << 28, 1 << 32, -1 << 32, 1 << 60, math.MaxInt, math.MinInt} {
		for _, p := range []api.Point{point(n, 0), point(0, n), point(n, n)} {
			// At the rung's farthest pixel on that side: it would be near enough.
			q := at(min(max(p.X, -1), 1), min(max(p.Y, -1), 1))
			for _, k := range []int{0, 27} {
				if k == 0 {
					q = at(q.X<<27, q.Y<<27)
				}
				o := point(0, 0)
				if Close(through(q), p, p, k, far) || Close(through(at(0, 0), q), o, p, k, far) || Close(through(q, at(0, 0)), p, o, k, far) {
					t.Error("P10.3: Close of a point that is not right:", p, k)
				}
				if Close(through(at(0, 0)), p, o, k, far) || Close(through(at(0, 0)), o, p, k, far) {
					t.Error("P10.3: Close of a point that is not right, a vertex alone:", p, k)
				}
			}
		}
		for k := range 29 {
			most := grid.Far >> k
			for _, m := range []int{most + 1, -most - 1, n, most + 1 + 1<<40} {
				if m <= most && m >= -most {
					continue
				}
				for _, q := range row(m, 0, 0, m, m, m) {
					near := point(1<<27*min(max(q.X, -1), 1), 1<<27*min(max(q.Y, -1), 1))
					if Close(through(q), near, near, k, far) || Close(through(at(0, 0), q, at(0, 0)), point(0, 0), point(0, 0), k, far) {
						t.Error("P10.3: Close with a vertex that is not In:", q, k)
					}
				}
			}
		}
	}
}
