package chain

import (
	"slices"
	"testing"

	"cobweb/api"
	"cobweb/grid"
	"cobweb/hot"
	"cobweb/order"
	"cobweb/pixel"
)

// between tells the pixels, but a link's two, that it meets, in the order in which it comes to them.
func between(p, q grid.Pixel, k int) (l []grid.Pixel) {
	a, b := grid.Center(p, k), grid.Center(q, k)
	for x := min(p.X, q.X); x <= max(p.X, q.X); x++ {
		for y := min(p.Y, q.Y); y <= max(p.Y, q.Y); y++ {
			if r := at(x, y); r != p && r != q && pixel.Hits(a, b, r, k) {
				l = append(l, r)
			}
		}
	}
	return order.Sort(l, order.Along(a, b))
}

// some tells those of l whose bit is 1.
func some(l []grid.Pixel, bits int) (left []grid.Pixel) {
	for i, q := range l {
		if bits>>i&1 == 1 {
			left = append(left, q)
		}
	}
	return left
}

// sign tells the way from m to n.
func sign(m, n int) int { return min(max(n-m, -1), 1) }

// TestSplitStaysRight splits links among 25 pixels, alone and with a link ahead and one behind, at any of the pixels that
// they meet: what comes is right, up to the greatest depth.
func TestSplitStaysRight(t *testing.T) {
	splits := 0
	for _, p := range square(-2, 2) {
		for _, q := range square(-2, 2) {
			if p == q {
				continue
			}
			on := between(p, q, 3)
			x, y := sign(p.X, q.X), sign(p.Y, q.Y)
			longer := Chain{V: []grid.Pixel{at(p.X-x, p.Y-2*y), p, q, at(q.X+9*x, q.Y+y)}, D: []int{7, 1<<20 - 1, 1 << 20}}
			for bits := 1; bits < 1<<len(on); bits++ {
				put := some(on, bits)
				c, is := Split(New(p, q), 0, put)
				if !is || !Right(c, 3) || Depth(c) != 2 {
					t.Error("P10.4: Split of", p, q, "at", put, "is", c)
				}
				d, is := Split(longer, 1, put)
				if !is || !Right(d, 3) {
					t.Error("P10.4: Split of", longer, "at", put, "is", d)
				}
				// One deeper is too deep.
				if e, is := Split(longer, 2, row(0, 0)); !is || Right(e, 3) {
					t.Error("P10.2, P10.1: Split of the deepest link of", longer, "is", e, is)
				}
				splits++
			}
		}
	}
	if splits < 3000 {
		t.Error("just so many splits:", splits)
	}
}

// route splits each link of c at the hot pixels that it meets, again and again, till none meets any but its two. Each
// time it is right, and no farther from the edge than its depth tells.
func route(t *testing.T, c Chain, s *hot.Set, a, b api.Point, k int) Chain {
	t.Helper()
	for link := 0; link < len(c.D); {
		p, q := c.V[link], c.V[link+1]
		met := slices.DeleteFunc(s.Met(grid.Center(p, k), grid.Center(q, k), k), func(r grid.Pixel) bool { return r == p || r == q })
		if len(met) == 0 {
			link++
			continue
		}
		next, is := Split(c, link, met)
		if !is || !Right(next, k) {
			t.Fatal("P10.4: Split of", c, link, "at", met, "is", next, is)
		}
		c = next
		if far := max(1, Depth(c)) << k; far <= 1<<28 && !Close(c, a, b, k, far) {
			t.Fatal("P10.4: on rung", k, "too far from", a, b, "is", c)
		}
	}
	return c
}

// TestNoFarther rounds edges to pixels that stand close together, on rungs of all sizes.
func TestNoFarther(t *testing.T) {
	next := mixer()
	upTo := below(next)
	deepest := 0
	for i := range 3000 {
		k := i % 26
		wide := 2 + upTo(min(32, api.MaxCoord>>k)-1)
		number := func() int { return (upTo(2*wide)-wide)<<k + upTo(1<<k) }
		place := func() api.Point { return point(number(), number()) }
		s := hot.New(400)
		for range 20 + upTo(200) {
			s.Add(grid.Of(place(), k))
		}
		for range 8 {
			a, b := place(), place()
			c := New(grid.Of(a, k), grid.Of(b, k))
			if !Right(c, k) || !Close(c, a, b, k, 1<<k) {
				t.Error("P10.4: New of", a, b, k, "is", c)
			}
			deepest = max(deepest, Depth(route(t, c, s, a, b, k)))
		}
	}
	if deepest < 4 {
		t.Error("the deepest chain was", deepest)
	}
}
