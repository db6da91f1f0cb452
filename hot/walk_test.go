package hot

import (
	"slices"
	"testing"

	"cobweb/api"
	"cobweb/cross"
	"cobweb/grid"
	"cobweb/pixel"
)

// steps is such that, of segments among numbers no more than 6 apart, every place at which a pixel's side is come to is
// a whole number of steps away from the first end, and an even one: so between any two that differ there is a step too.
const steps = 240

// cellOf tells the X of the pixels of rung k in which places with x n over steps are.
func cellOf(n, k int) int {
	size := steps << k
	n += size / 2
	if n < 0 {
		n -= size - 1
	}
	return n / size
}

// slowWalk tells the pixels of rung k that a segment comes to, the first one first.
func slowWalk(a, b api.Point, k int) (l []grid.Pixel) {
	for i := range steps + 1 {
		q := at(cellOf(a.X*steps+i*(b.X-a.X), k), cellOf(a.Y*steps+i*(b.Y-a.Y), k))
		if len(l) == 0 || q != l[len(l)-1] {
			l = append(l, q)
		}
	}
	return l
}

// stretch tells the numbers from m to n, falling, if n is below m.
func stretch(m, n int) (l []int) {
	for ; m < n; m++ {
		l = append(l, m)
	}
	for ; m > n; m-- {
		l = append(l, m)
	}
	return append(l, n)
}

// slowNear tells all pixels between the ends', in the order in which a segment comes to pixels.
func slowNear(a, b api.Point, k int) (l []grid.Pixel) {
	for _, x := range stretch(cellOf(a.X*steps, k), cellOf(b.X*steps, k)) {
		for _, y := range stretch(cellOf(a.Y*steps, k), cellOf(b.Y*steps, k)) {
			l = append(l, at(x, y))
		}
	}
	return l
}

// of tells those of l that the row has.
func of(l, row []grid.Pixel) (has []grid.Pixel) {
	for _, q := range l {
		if slices.Contains(row, q) {
			has = append(has, q)
		}
	}
	return has
}

// every tells each n-th one of l.
func every(n int, l []grid.Pixel) (left []grid.Pixel) {
	for i := 0; i < len(l); i += n {
		left = append(left, l[i])
	}
	return left
}

// TestAllShortSegments goes through all segments among 49 points on three rungs, with sets of all pixels, and of some.
func TestAllShortSegments(t *testing.T) {
	whole := square(-4, 4)
	for _, row := range [][]grid.Pixel{whole, every(2, whole), every(3, whole), every(7, whole)} {
		s, _ := made(api.MaxCap, row...)
		for i := range 49 {
			for j := range 49 {
				a, b := point(i/7-3, i%7-3), point(j/7-3, j%7-3)
				for k := range 3 {
					near, walk := slowNear(a, b, k), slowWalk(a, b, k)
					check(t, s, a, b, k, of(near, row), of(walk, row))
					for _, q := range walk {
						if slices.Contains(row, q) && !slices.Contains(s.Near(a, b, k), q) {
							t.Fatal("P9.3: what", a, b, "meets of rung", k, "is not near it:", q)
						}
					}
				}
			}
		}
	}
}

// ahead tells whether a segment from a to b comes to p ahead of q, if to both.
func ahead(a, b api.Point, p, q grid.Pixel) bool {
	if p.X != q.X {
		return (p.X < q.X) == (a.X <= b.X)
	}
	return (p.Y < q.Y) == (a.Y <= b.Y)
}

// farNear tells those of row that are between the ends' pixels: each time that one of those left that is ahead of all.
func farNear(row []grid.Pixel, a, b api.Point, k int) (l []grid.Pixel) {
	p, q := grid.Of(a, k), grid.Of(b, k)
	for _, r := range row {
		if (r.X-p.X)*(r.X-q.X) > 0 || (r.Y-p.Y)*(r.Y-q.Y) > 0 {
			continue
		}
		i := len(l)
		for i > 0 && ahead(a, b, r, l[i-1]) {
			i--
		}
		l = slices.Insert(l, i, r)
	}
	return l
}

// hitOf tells those of l that the segment hits.
func hitOf(l []grid.Pixel, a, b api.Point, k int) (hit []grid.Pixel) {
	for _, q := range l {
		if pixel.Hits(a, b, q, k) {
			hit = append(hit, q)
		}
	}
	return hit
}

// alongRow tells pixels of rung k that places on the segment, and next to it, are in.
func alongRow(next func() int, a, b api.Point, k int) (l []grid.Pixel) {
	for i := range 40 {
		q := grid.Of(point(a.X+(b.X-a.X)/40*i, a.Y+(b.Y-a.Y)/40*i), k)
		l = append(l, q, at(q.X+next()%3, q.Y+next()%3))
	}
	return l
}

// TestFarSegments goes along segments as long as may be, in sets that have pixels all along them, and of others; all
// that they meet of these is near.
func TestFarSegments(t *testing.T) {
	next := mixer()
	number := func() int {
		n := next() % (cross.Far + 1)
		switch next() & 3 {
		case 0:
			return cross.Far - n&7
		case 1:
			return -cross.Far + n&7
		}
		return n
	}
	met, missed := 0, 0
	for i := range 1500 {
		k := i % (api.MaxRung + 1)
		a, b := point(number(), number()), point(number(), number())
		s, m := made(200, alongRow(next, a, b, k)...)
		near, hit := farNear(m.row, a, b, k), hitOf(m.row, a, b, k)
		check(t, s, a, b, k, near, hitOf(near, a, b, k))
		for _, q := range hit {
			if !slices.Contains(near, q) {
				t.Fatal("P9.3: what", a, b, "meets of rung", k, "is not near it:", q)
			}
		}
		met, missed = met+len(hit), missed+len(near)-len(hit)
		// And other segments of the same set.
		c, d := point(number(), number()), point(number(), number())
		near = farNear(m.row, c, d, k)
		check(t, s, c, d, k, near, hitOf(near, c, d, k))
	}
	if min(met, missed) < 1000 {
		t.Error("there were met, and near but not met:", met, missed)
	}
}
