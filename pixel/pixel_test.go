package pixel

import (
	"math"
	"testing"

	"cobweb/api"
	"cobweb/cross"
	"cobweb/grid"
)

// at tells the point with these numbers.
func at(x, y int) api.Point { return api.Point{X: x, Y: y} }

// pixelAt tells the pixel with these numbers.
func pixelAt(x, y int) grid.Pixel { return grid.Pixel{X: x, Y: y} }

// answers are those of Half, Shut and Open.
type answers [3]bool

// The answers of a box that is met inside, on its sides at the left or below alone, on its other sides alone, nowhere.
func inside() answers     { return answers{true, true, true} }
func onLowSide() answers  { return answers{true, true, false} }
func onHighSide() answers { return answers{false, true, false} }
func nowhere() answers    { return answers{false, false, false} }

// check holds Meets of each kind against what is wanted, with the segment turned round too.
func check(t *testing.T, a, b, low, high api.Point, want answers) {
	t.Helper()
	for i, kind := range []int{Half, Shut, Open} {
		if got := Meets(a, b, low, high, kind); got != want[i] {
			t.Error("P6.1: Meets", a, b, "box", low, high, "kind", kind, "is", got)
		}
		if got := Meets(b, a, low, high, kind); got != want[i] {
			t.Error("P6.3: Meets", b, a, "box", low, high, "kind", kind, "is", got)
		}
	}
	if want[2] && (!want[0] || !want[1]) {
		t.Error("P6.3: of", a, b, "box", low, high, "is wanted Open, but not Half and Shut")
	}
}

// example is the segment from (ax, ay) to (bx, by), and what is told of it and a box.
type example struct {
	ax, ay, bx, by int
	want           answers
}

// checkAll checks all of these against one box.
func checkAll(t *testing.T, low, high api.Point, l []example) {
	t.Helper()
	for _, x := range l {
		check(t, at(x.ax, x.ay), at(x.bx, x.by), low, high, x.want)
	}
}

func TestKindsAreCounted(t *testing.T) {
	if Half != 0 || Shut != 1 || Open != 2 {
		t.Error("P6.1: the kinds are", Half, Shut, Open)
	}
}

func TestSegmentsThatGoThroughOrLieInside(t *testing.T) {
	checkAll(t, at(0, 0), at(8, 8), []example{
		{-1, 2, 5, 2, inside()}, {2, -7, 2, 9, inside()}, {-3, -1, 9, 5, inside()}, {-1, 5, 5, -1, inside()},
		{1, 1, 2, 3, inside()}, {1, 1, 3, 1, inside()}, {2, 1, 2, 3, inside()},
		{2, 2, 9, 2, inside()}, {2, 2, -9, -2, inside()},
		// From corner to corner, and from side to side.
		{0, 0, 4, 4, inside()}, {0, 4, 4, 0, inside()}, {0, 2, 4, 2, inside()}, {2, 0, 2, 4, inside()},
		{0, 1, 1, 0, inside()}, {3, 4, 4, 3, inside()},
		// An end on a side, or in a corner, and from there inside.
		{0, 2, 1, 2, inside()}, {4, 2, 3, 2, inside()}, {2, 0, 2, 1, inside()}, {2, 4, 2, 3, inside()},
		{4, 4, 3, 3, inside()}, {4, 0, 3, 1, inside()}, {0, 4, 1, 3, inside()}, {0, 0, 1, 2, inside()},
		// Just past a corner, inside of it.
		{-1, 2, 1, -1, inside()}, {3, -1, 5, 2, inside()}, {3, 5, 5, 2, inside()}, {-1, 2, 1, 5, inside()},
	})
}

func TestSegmentsThatRunAlongASide(t *testing.T) {
	checkAll(t, at(0, 0), at(8, 8), []example{
		{0, 0, 0, 4, onLowSide()}, {0, -1, 0, 5, onLowSide()}, {0, 1, 0, 3, onLowSide()}, {0, 3, 0, 9, onLowSide()},
		{0, 0, 4, 0, onLowSide()}, {-1, 0, 5, 0, onLowSide()}, {1, 0, 3, 0, onLowSide()}, {3, 0, 9, 0, onLowSide()},
		{4, 0, 4, 4, onHighSide()}, {4, -1, 4, 5, onHighSide()}, {4, 1, 4, 3, onHighSide()}, {4, 3, 4, 9, onHighSide()},
		{0, 4, 4, 4, onHighSide()}, {-1, 4, 5, 4, onHighSide()}, {1, 4, 3, 4, onHighSide()}, {3, 4, 9, 4, onHighSide()},
		// On a side's line, up to the corner.
		{0, -3, 0, 0, onLowSide()}, {-3, 0, 0, 0, onLowSide()}, {0, 4, 0, 7, onHighSide()}, {4, 0, 7, 0, onHighSide()},
		{4, -3, 4, 0, onHighSide()}, {4, 4, 4, 7, onHighSide()}, {-3, 4, 0, 4, onHighSide()}, {4, 4, 7, 4, onHighSide()},
		// On a side's line, but not up to it.
		{0, -3, 0, -1, nowhere()}, {-3, 0, -1, 0, nowhere()}, {0, 5, 0, 7, nowhere()}, {5, 0, 7, 0, nowhere()},
		{4, -3, 4, -1, nowhere()}, {4, 5, 4, 7, nowhere()}, {-3, 4, -1, 4, nowhere()}, {5, 4, 7, 4, nowhere()},
	})
}

func TestSegmentsThatTouch(t *testing.T) {
	checkAll(t, at(0, 0), at(8, 8), []example{
		// A side, with an end.
		{-3, 2, 0, 2, onLowSide()}, {-3, 5, 0, 1, onLowSide()}, {2, -3, 2, 0, onLowSide()}, {9, -3, 3, 0, onLowSide()},
		{4, 2, 7, 2, onHighSide()}, {4, 1, 7, 9, onHighSide()}, {2, 4, 2, 7, onHighSide()}, {3, 4, -5, 7, onHighSide()},
		// A corner, with an inner place.
		{-1, 1, 1, -1, onLowSide()}, {-1, 2, 2, -4, onLowSide()},
		{3, -1, 5, 1, onHighSide()}, {-1, 3, 1, 5, onHighSide()}, {3, 5, 5, 3, onHighSide()}, {2, 5, 8, 2, onHighSide()},
		// A corner, with an end.
		{0, 0, -2, -1, onLowSide()}, {0, 0, 3, -1, onLowSide()}, {0, 0, -1, 3, onLowSide()},
		{4, 0, 5, -3, onHighSide()}, {4, 0, 5, 3, onHighSide()}, {0, 4, -1, 9, onHighSide()},
		{0, 4, 1, 5, onHighSide()}, {4, 4, 6, 5, onHighSide()}, {4, 4, 3, 5, onHighSide()},
	})
	// A box whose corners are halves.
	checkAll(t, at(1, 1), at(7, 7), []example{
		{0, 1, 1, 0, onLowSide()}, {3, 0, 4, 1, onHighSide()}, {0, 3, 1, 4, onHighSide()}, {3, 4, 4, 3, onHighSide()},
		{0, 2, 1, 0, inside()}, {0, 1, 2, 0, inside()}, {1, 1, 3, 3, inside()}, {1, 1, 1, 1, inside()},
	})
}

func TestSegmentsThatMissByLittle(t *testing.T) {
	checkAll(t, at(0, 0), at(8, 8), []example{
		{-1, 0, -1, 4, nowhere()}, {5, 0, 5, 4, nowhere()}, {0, -1, 4, -1, nowhere()}, {0, 5, 4, 5, nowhere()},
		{-3, 2, -1, 2, nowhere()}, {5, 2, 9, 2, nowhere()}, {2, 5, 2, 9, nowhere()}, {2, -9, 2, -1, nowhere()},
		// Past a corner, outside of it, though it comes as far as the box in x and in y.
		{-1, 0, 1, -1, nowhere()}, {3, -1, 5, 0, nowhere()}, {3, 6, 5, 3, nowhere()}, {-1, 4, 1, 5, nowhere()},
		{-100, 99, 99, -100, nowhere()}, {-100, 100, 99, -100, nowhere()}, {-95, -100, 104, 99, nowhere()},
	})
	checkAll(t, at(1, 1), at(7, 7), []example{
		{0, 0, 0, 4, nowhere()}, {4, 0, 4, 4, nowhere()}, {0, 0, 4, 0, nowhere()}, {0, 4, 4, 4, nowhere()}, {0, 0, 0, 0, nowhere()},
		{-1, 2, 2, -2, nowhere()}, {0, 1, 2, -1, onLowSide()},
	})
}

func TestSegmentsOfOnePoint(t *testing.T) {
	low, high := at(0, 0), at(8, 8)
	for x := -1; x <= 5; x++ {
		for y := -1; y <= 5; y++ {
			want := nowhere()
			switch {
			case x > 0 && x < 4 && y > 0 && y < 4:
				want = inside()
			case x >= 0 && x < 4 && y >= 0 && y < 4:
				want = onLowSide()
			case x >= 0 && x <= 4 && y >= 0 && y <= 4:
				want = onHighSide()
			}
			check(t, at(x, y), at(x, y), low, high, want)
		}
	}
}

func TestBoxesThatAreEmptyOrInsideOut(t *testing.T) {
	// One place alone, or a line of them: just a shut box has them.
	checkAll(t, at(4, 4), at(4, 4), []example{
		{2, 2, 2, 2, onHighSide()}, {0, 0, 5, 5, onHighSide()}, {2, 0, 2, 9, onHighSide()}, {0, 2, 9, 2, onHighSide()},
		{0, 0, 3, 4, nowhere()}, {3, 2, 9, 2, nowhere()}, {1, 2, 1, 2, nowhere()},
	})
	checkAll(t, at(3, 3), at(3, 3), []example{{0, 3, 3, 0, onHighSide()}, {1, 1, 2, 2, onHighSide()}, {1, 1, 2, 1, nowhere()}})
	checkAll(t, at(4, 0), at(4, 8), []example{
		{2, 0, 2, 4, onHighSide()}, {2, 2, 2, 2, onHighSide()}, {0, 2, 4, 2, onHighSide()}, {0, 5, 3, 4, nowhere()}, {1, 0, 1, 4, nowhere()},
	})
	checkAll(t, at(0, 4), at(8, 4), []example{
		{0, 2, 4, 2, onHighSide()}, {2, 2, 2, 2, onHighSide()}, {2, 0, 2, 4, onHighSide()}, {5, 0, 4, 3, nowhere()}, {0, 1, 4, 1, nowhere()},
	})
	// Inside out in x, in y, in both: there are no places.
	for _, high := range []api.Point{at(3, 9), at(9, 3), at(3, 3), at(-1, 9), at(9, -1), at(-1, -1)} {
		checkAll(t, at(4, 4), high, []example{
			{2, 2, 2, 2, nowhere()}, {-9, 2, 9, 2, nowhere()}, {2, -9, 2, 9, nowhere()}, {-9, -9, 9, 9, nowhere()},
			{9, -9, -9, 9, nowhere()}, {0, 0, 1, 2, nowhere()}, {1, 1, 1, 1, nowhere()}, {1, 2, 2, 1, nowhere()},
		})
	}
}

func TestNumbersThatAreNoKind(t *testing.T) {
	for _, kind := range []int{-1, 3, 4, -2, 256, 1 << 32, 1<<32 + 1, math.MaxInt, math.MinInt} {
		if Meets(at(1, 1), at(2, 2), at(0, 0), at(8, 8), kind) {
			t.Error("P6.1: Meets kind", kind)
		}
	}
}

// wrongFrom tells numbers that are farther than most, which is below 2^31, from 0.
func wrongFrom(most int) []int {
	return []int{most + 1, -most - 1, most + 2, 2 * most, -2 * most, 4 * most, 1 << 32, 1<<32 + 1, -1 << 32, 1 << 62, math.MaxInt, math.MinInt, math.MinInt + 1}
}

func TestPointsThatAreNotRight(t *testing.T) {
	low, high := at(-1<<29, -1<<29), at(1<<29, 1<<29)
	for _, n := range []int{cross.Far, -cross.Far, cross.Far - 1} {
		for _, p := range []api.Point{at(n, 0), at(0, n), at(n, n), at(n, -n)} {
			check(t, p, at(1, 2), low, high, inside())
			check(t, p, p, low, high, inside())
		}
	}
	for _, n := range wrongFrom(cross.Far) {
		for _, p := range []api.Point{at(n, 0), at(0, n), at(n, n), at(n, cross.Far)} {
			check(t, p, at(1, 2), low, high, nowhere())
			check(t, p, p, low, high, nowhere())
		}
	}
}

func TestCornersThatAreNotRight(t *testing.T) {
	const most = 1 << 29
	for _, n := range []int{most, most - 1} {
		check(t, at(1, 1), at(2, 3), at(-n, 0), at(8, 8), inside())
		check(t, at(1, 1), at(2, 3), at(0, -n), at(8, 8), inside())
		check(t, at(1, 1), at(2, 3), at(0, 0), at(n, 8), inside())
		check(t, at(1, 1), at(2, 3), at(0, 0), at(8, n), inside())
		// Right corners, inside out.
		check(t, at(1, 1), at(2, 3), at(n, n), at(-n, -n), nowhere())
	}
	for _, n := range wrongFrom(most) {
		check(t, at(1, 1), at(2, 3), at(n, 0), at(8, 8), nowhere())
		check(t, at(1, 1), at(2, 3), at(0, n), at(8, 8), nowhere())
		check(t, at(1, 1), at(2, 3), at(0, 0), at(n, 8), nowhere())
		check(t, at(1, 1), at(2, 3), at(0, 0), at(8, n), nowhere())
		check(t, at(1, 1), at(2, 3), at(n, n), at(n, n), nowhere())
	}
}

func TestSegmentsAndBoxesFarOff(t *testing.T) {
	const f = cross.Far
	// The box of all right points, shut.
	checkAll(t, at(-2*f, -2*f), at(2*f, 2*f), []example{
		{f, f, f, f, onHighSide()}, {-f, -f, -f, -f, onLowSide()}, {-f, f, f, f, onHighSide()}, {-f, -f, f, -f, onLowSide()},
		{-f, f, -f, f, onHighSide()}, {f, -f, f, -f, onHighSide()}, {-f, -f, f, f, inside()}, {-f, f, -f, -f, onLowSide()},
	})
	// A corner that just touches the longest segments, or lies half a unit beside them.
	checkAll(t, at(0, 0), at(4*f, 4*f), []example{
		{-f, f, f, -f, onLowSide()}, {-f, f - 1, f, -f, nowhere()}, {-f, f - 1, f - 1, -f, nowhere()}, {-f + 1, f, f, -f, inside()},
	})
	checkAll(t, at(-4*f, -4*f), at(-1, 1), []example{
		{-f, f, f, -f, onHighSide()}, {-f + 1, f, f, -f + 1, nowhere()}, {-f, f, f, -f + 1, nowhere()}, {-f, f - 1, f - 1, -f, inside()},
	})
	checkAll(t, at(4*f, 4*f), at(4*f, 4*f), []example{{-f, -f, f, f, nowhere()}, {f, f, f, f, nowhere()}})
	checkAll(t, at(-4*f, -4*f), at(-4*f, -4*f), []example{{-f, -f, f, f, nowhere()}, {-f, -f, -f, -f, nowhere()}})
}
