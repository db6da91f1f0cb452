package hot

import (
	"slices"
	"testing"

	"cobweb/api"
	"cobweb/grid"
)

// check holds Near, and Met, of the segment against what is wanted.
func check(t *testing.T, s *Set, a, b api.Point, k int, wantNear, wantMet []grid.Pixel) {
	t.Helper()
	if l := s.Near(a, b, k); !slices.Equal(l, wantNear) {
		t.Error("P9.2: Near of", a, b, "rung", k, "is", l, "not", wantNear)
	}
	if l := s.Met(a, b, k); !slices.Equal(l, wantMet) {
		t.Error("P9.2: Met of", a, b, "rung", k, "is", l, "not", wantMet)
	}
}

// TestAllWays goes through one cross of pixels each way.
func TestAllWays(t *testing.T) {
	w, e, n, s, o := at(-2, 0), at(2, 0), at(0, 2), at(0, -2), at(0, 0)
	nw, ne, sw, se := at(-2, 2), at(2, 2), at(-2, -2), at(2, -2)
	set, _ := made(20, se, n, o, w, nw, e, sw, s, ne, at(3, 3), at(-3, 0), at(0, 3), at(0, -3), at(3, 0))
	for _, x := range []struct {
		a, b      api.Point
		near, met []grid.Pixel
	}{
		// Right, left, up and down.
		{point(-2, 0), point(2, 0), []grid.Pixel{w, o, e}, []grid.Pixel{w, o, e}},
		{point(2, 0), point(-2, 0), []grid.Pixel{e, o, w}, []grid.Pixel{e, o, w}},
		{point(0, -2), point(0, 2), []grid.Pixel{s, o, n}, []grid.Pixel{s, o, n}},
		{point(0, 2), point(0, -2), []grid.Pixel{n, o, s}, []grid.Pixel{n, o, s}},
		// All four slants.
		{point(-2, -2), point(2, 2), []grid.Pixel{sw, w, nw, s, o, n, se, e, ne}, []grid.Pixel{sw, o, ne}},
		{point(2, 2), point(-2, -2), []grid.Pixel{ne, e, se, n, o, s, nw, w, sw}, []grid.Pixel{ne, o, sw}},
		{point(-2, 2), point(2, -2), []grid.Pixel{nw, w, sw, n, o, s, ne, e, se}, []grid.Pixel{nw, o, se}},
		{point(2, -2), point(-2, 2), []grid.Pixel{se, e, ne, s, o, n, sw, w, nw}, []grid.Pixel{se, o, nw}},
		// One point: in the set, and not.
		{point(0, 0), point(0, 0), []grid.Pixel{o}, []grid.Pixel{o}},
		{point(1, 1), point(1, 1), nil, nil},
		// Ends that are not in the set.
		{point(-1, 0), point(1, 0), []grid.Pixel{o}, []grid.Pixel{o}},
		{point(1, 1), point(-1, -1), []grid.Pixel{o}, []grid.Pixel{o}},
		{point(-1, 2), point(4, 0), []grid.Pixel{n, o, ne, e, at(3, 0)}, []grid.Pixel{n, at(3, 0)}},
		{point(4, 0), point(-1, 2), []grid.Pixel{at(3, 0), e, ne, o, n}, []grid.Pixel{at(3, 0), n}},
		{point(1, 1), point(1, 9), nil, nil},
		{point(5, 5), point(9, 9), nil, nil},
	} {
		check(t, set, x.a, x.b, 0, x.near, x.met)
		check(t, set, x.a, x.b, -1, x.near, nil)
	}
	check(t, New(5), point(-2, -2), point(2, 2), 0, nil, nil)
}

// TestBoxEdges asks for pixels on the edges of the box of the ends' pixels, in its corners, and just beside it.
func TestBoxEdges(t *testing.T) {
	inside := []grid.Pixel{at(-3, 5), at(-3, 4), at(-3, 2), at(0, 5), at(0, 2), at(4, 5), at(4, 3), at(4, 2)}
	beside := []grid.Pixel{
		at(-4, 5), at(-4, 4), at(-4, 2), at(5, 5), at(5, 3), at(5, 2), at(-3, 6), at(0, 6), at(4, 6), at(-3, 1), at(0, 1), at(4, 1),
		at(-4, 6), at(5, 1), at(-4, 1), at(5, 6), at(-3, -5), at(3, 5<<32),
	}
	s, _ := made(99, slices.Concat(beside[:9], inside, beside[9:])...)
	met := []grid.Pixel{at(-3, 5), at(4, 2)}
	check(t, s, point(-3, 5), point(4, 2), 0, inside, met)
	slices.Reverse(inside)
	slices.Reverse(met)
	check(t, s, point(4, 2), point(-3, 5), 0, inside, met)
	slices.Reverse(inside)
	slices.Reverse(met)
	// On rung 3 the same pixels are those of places up to 4 away from their centers, less at the upper end.
	check(t, s, point(-28, 43), point(35, 12), 3, inside, []grid.Pixel{at(-3, 5), at(4, 2)})
	check(t, s, point(-21, 36), point(28, 19), 3, inside, []grid.Pixel{at(-3, 5), at(-3, 4), at(4, 2)})
	upper := []grid.Pixel{at(-3, 5), at(-3, 4), at(0, 5), at(4, 5), at(4, 3)}
	check(t, s, point(-28, 43), point(35, 20), 3, upper, []grid.Pixel{at(-3, 5), at(4, 3)})
	check(t, s, point(-28, 43), point(27, 12), 3, []grid.Pixel{at(-3, 5), at(-3, 4), at(-3, 2), at(0, 5), at(0, 2)}, []grid.Pixel{at(-3, 5)})
}

// TestCornersAndSides asks for pixels that a segment meets in a corner, or along a side, alone.
func TestCornersAndSides(t *testing.T) {
	s, _ := made(9, square(0, 1)...)
	o, right, up, both := at(0, 0), at(1, 0), at(0, 1), at(1, 1)
	// The corner of all four is that of the upper right one.
	check(t, s, point(0, 1), point(1, 0), 0, []grid.Pixel{up, o, both, right}, []grid.Pixel{up, both, right})
	check(t, s, point(1, 0), point(0, 1), 0, []grid.Pixel{right, both, o, up}, []grid.Pixel{right, both, up})
	check(t, s, point(0, 0), point(1, 1), 0, []grid.Pixel{o, up, right, both}, []grid.Pixel{o, both})
	check(t, s, point(1, 1), point(0, 0), 0, []grid.Pixel{both, right, up, o}, []grid.Pixel{both, o})
	// On rung 1 a pixel's lower and left sides are at uneven numbers, and its own.
	check(t, s, point(1, 0), point(1, 2), 1, []grid.Pixel{right, both}, []grid.Pixel{right, both})
	check(t, s, point(2, 1), point(0, 1), 1, []grid.Pixel{both, up}, []grid.Pixel{both, up})
	check(t, s, point(0, 2), point(0, 1), 1, []grid.Pixel{up}, []grid.Pixel{up})
	check(t, s, point(0, 2), point(0, 0), 1, []grid.Pixel{up, o}, []grid.Pixel{up, o})
	check(t, s, point(1, 1), point(1, 1), 1, []grid.Pixel{both}, []grid.Pixel{both})
	check(t, s, point(-1, -1), point(-1, -1), 1, []grid.Pixel{o}, []grid.Pixel{o})
	// Ends in a corner, and on a side.
	check(t, s, point(1, 1), point(0, 0), 1, []grid.Pixel{both, right, up, o}, []grid.Pixel{both, o})
	check(t, s, point(1, 1), point(2, 0), 1, []grid.Pixel{both, right}, []grid.Pixel{both, right})
	check(t, s, point(-1, 2), point(2, -1), 1, []grid.Pixel{up, o, both, right}, []grid.Pixel{up, o, right})
	check(t, s, point(-1, 3), point(3, -1), 1, []grid.Pixel{up, o, both, right}, []grid.Pixel{up, both, right})
}

// TestRungs asks one set of all rungs: its pixels are then greater ones.
func TestRungs(t *testing.T) {
	row := []grid.Pixel{at(2, 1), at(-1, -1), at(0, 0), at(1, 0), at(1, 1), at(-2, -1), at(0, -1), at(-1, 0)}
	s, _ := made(8, row...)
	for k := range 26 {
		size := 1 << k
		a, b := point(-2*size, -size), point(2*size, size)
		near := []grid.Pixel{at(-2, -1), at(-1, -1), at(-1, 0), at(0, -1), at(0, 0), at(1, 0), at(1, 1), at(2, 1)}
		check(t, s, a, b, k, near, []grid.Pixel{at(-2, -1), at(-1, -1), at(-1, 0), at(0, 0), at(1, 0), at(1, 1), at(2, 1)})
	}
	// All of it is one pixel of the last rung.
	const f = grid.Far
	for _, x := range [][2]api.Point{{point(-f, -f), point(f-1, f-1)}, {point(f-1, f-1), point(-f, f-1)}, {point(0, 0), point(0, 0)}} {
		for k := api.MaxRung; k < api.MaxRung+3; k++ {
			met := []grid.Pixel{at(0, 0)}
			if k > api.MaxRung {
				met = nil
			}
			check(t, s, x[0], x[1], k, []grid.Pixel{at(0, 0)}, met)
		}
	}
}

// TestFar asks for pixels as far off as numbers go, of points that are right, and of others.
func TestFar(t *testing.T) {
	const f = grid.Far
	row := []grid.Pixel{
		at(most, most), at(f, f), at(1, 1), at(least, most), at(-f, -f), at(f+1, f+1), at(-1, 0), at(1, 0), at(-f-1, -f), at(most, 0),
		at(0, 0), at(least, least), at(f-1, f-1), at(f-1, f),
	}
	s, _ := made(20, row...)
	all := []grid.Pixel{at(-f, -f), at(-1, 0), at(0, 0), at(1, 0), at(1, 1), at(f-1, f-1), at(f-1, f), at(f, f)}
	check(t, s, point(-f, -f), point(f, f), 0, all, []grid.Pixel{at(-f, -f), at(0, 0), at(1, 1), at(f-1, f-1), at(f, f)})
	slices.Reverse(all)
	check(t, s, point(f, f), point(-f, -f), 0, all, []grid.Pixel{at(f, f), at(f-1, f-1), at(1, 1), at(0, 0), at(-f, -f)})
	slices.Reverse(all)
	// No segment meets anything, if its ends are not right; what is near is near.
	all = append(all, at(f+1, f+1))
	check(t, s, point(-f, -f), point(f+1, f+1), 0, all, nil)
	whole := slices.Clone(row)
	slices.SortFunc(whole, grid.Cmp)
	check(t, s, point(least, least), point(most, most), 0, whole, nil)
	check(t, s, point(least, 0), point(most, 0), 0, []grid.Pixel{at(-1, 0), at(0, 0), at(1, 0), at(most, 0)}, nil)
	check(t, s, point(most, 0), point(least, 0), 0, []grid.Pixel{at(most, 0), at(1, 0), at(0, 0), at(-1, 0)}, nil)
	check(t, s, point(most, most), point(least, most), 0, []grid.Pixel{at(most, most), at(least, most)}, nil)
	check(t, s, point(least, least), point(least, most), 0, []grid.Pixel{at(least, least), at(least, most)}, nil)
	check(t, s, point(least, most), point(least, least), 0, []grid.Pixel{at(least, most), at(least, least)}, nil)
	check(t, s, point(least, least), point(least, least), 0, []grid.Pixel{at(least, least)}, nil)
	// A point with a number of Far is, on the last rung, in a pixel that is not In, and not met.
	check(t, s, point(f, 0), point(0, 0), api.MaxRung, []grid.Pixel{at(1, 0), at(0, 0)}, []grid.Pixel{at(0, 0)})
	check(t, s, point(f, f), point(f, f), api.MaxRung, []grid.Pixel{at(1, 1)}, nil)
	check(t, s, point(-f, -f), point(f, f), api.MaxRung-1, []grid.Pixel{at(-1, 0), at(0, 0), at(1, 0), at(1, 1)}, []grid.Pixel{at(0, 0), at(1, 1)})
	check(t, s, point(-f, -f), point(f, f), api.MaxRung, []grid.Pixel{at(0, 0), at(1, 0), at(1, 1)}, []grid.Pixel{at(0, 0)})
	// What is no rung counts as the nearest one for what is near, and nothing is met then.
	for _, k := range []int{least, -1 << 32, -1, api.MaxRung + 1, 64, 1 << 32, most} {
		near := []grid.Pixel{at(1, 0)}
		if k < 0 {
			near = nil
		}
		check(t, s, point(f, 0), point(f, 0), k, near, nil)
	}
}
