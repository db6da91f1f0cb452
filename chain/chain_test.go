package chain

import (
	"math"
	"slices"
	"testing"

	"cobweb/api"
	"cobweb/grid"
)

func at(x, y int) grid.Pixel { return grid.Pixel{X: x, Y: y} }

func point(x, y int) api.Point { return api.Point{X: x, Y: y} }

// row tells pixels, by their numbers: X, Y, X, Y and so on.
func row(numbers ...int) (l []grid.Pixel) {
	for i := 0; i < len(numbers); i += 2 {
		l = append(l, at(numbers[i], numbers[i+1]))
	}
	return l
}

// through tells the chain through these pixels all of whose links have depth 1.
func through(l ...grid.Pixel) Chain {
	c := Chain{V: l}
	for i := 1; i < len(l); i++ {
		c.D = append(c.D, 1)
	}
	return c
}

// square tells all pixels with numbers from low to high.
func square(low, high int) (l []grid.Pixel) {
	for x := low; x <= high; x++ {
		for y := low; y <= high; y++ {
			l = append(l, at(x, y))
		}
	}
	return l
}

// eachRow calls f with all rows of n of these, one for all.
func eachRow[T any](of []T, n int, f func(l []T)) {
	l := make([]T, n)
	var fill func(i int)
	fill = func(i int) {
		if i == n {
			f(l)
			return
		}
		for _, v := range of {
			l[i] = v
			fill(i + 1)
		}
	}
	fill(0)
}

func TestNew(t *testing.T) {
	ends := append(square(-2, 2), at(math.MaxInt, math.MinInt), at(math.MinInt, math.MaxInt), at(grid.Far, -grid.Far))
	for _, p := range ends {
		for _, q := range ends {
			c := New(p, q)
			want := Chain{V: []grid.Pixel{p, q}, D: []int{1}}
			if p.X == q.X && p.Y == q.Y {
				want = Chain{V: []grid.Pixel{p}}
			}
			if !slices.Equal(c.V, want.V) || !slices.Equal(c.D, want.D) {
				t.Error("P10.1: New", p, q, "is", c)
			}
		}
	}
}

// slowRight tells whether c is right, each thing asked of all vertices, and of all two of them.
func slowRight(c Chain, k int) bool {
	if k < 0 || k > 28 || len(c.V) == 0 || len(c.D)+1 != len(c.V) {
		return false
	}
	turns := map[string]bool{}
	for i, q := range c.V {
		far := 1 << 27 >> k
		if q.X > far || q.X < -far || q.Y > far || q.Y < -far || i > 0 && c.V[i-1] == q {
			return false
		}
		for _, p := range c.V[:i] {
			turns["right"] = turns["right"] || q.X > p.X
			turns["left"] = turns["left"] || q.X < p.X
			turns["up"] = turns["up"] || q.Y > p.Y
			turns["down"] = turns["down"] || q.Y < p.Y
		}
	}
	for _, d := range c.D {
		if d <= 0 || d >= 1<<20+1 {
			return false
		}
	}
	return !(turns["right"] && turns["left"]) && !(turns["up"] && turns["down"])
}

// TestRightAll asks of all chains of up to 4 vertices among 9 pixels, with links enough, one too few and one too many.
func TestRightAll(t *testing.T) {
	rights := 0
	for n := range 5 {
		eachRow(square(-1, 1), n, func(l []grid.Pixel) {
			for links := range n + 2 {
				c := Chain{V: l, D: []int{1, 2, 3, 4, 5}[:links]}
				want := slowRight(c, 0)
				if got := Right(c, 0); got != want {
					t.Error("P10.1: Right", c, "is", got)
				}
				if want {
					rights++
				}
			}
		})
	}
	if rights < 300 {
		t.Error("just so many were right:", rights)
	}
}

// TestRightDepths asks of all chains of up to 3 links whose depths are about the least, and the greatest, that may be.
func TestRightDepths(t *testing.T) {
	depths := []int{1, 2, 1<<20 - 1, 1 << 20, 1<<20 + 1, 0, -1, 1 << 32, 1<<32 + 1, math.MaxInt, math.MinInt, math.MinInt + 1}
	v := row(0, 0, 1, 0, 2, 5, 2, 9)
	for n := range len(v) {
		eachRow(depths, n, func(d []int) {
			c := Chain{V: v[:n+1], D: d}
			if got := Right(c, 3); got != slowRight(c, 3) {
				t.Error("P10.1: Right", c, "is", got)
			}
		})
	}
}

// TestRightIn asks of chains with vertices that are just In, and just not, of all rungs, and of what is no rung.
func TestRightIn(t *testing.T) {
	for k := -3; k <= 33; k++ {
		far := grid.Far >> min(max(k, 0), 28)
		for _, d := range []int{far, far + 1, -far, -far - 1, math.MaxInt, math.MinInt, 1 << 32, 1 << 62} {
			for _, l := range [][]grid.Pixel{
				row(d, 0), row(0, d), row(d, d), row(d, -d), row(0, 0, d, 0), row(0, d, 0, 0), row(0, 0, 0, d/2, d, d),
			} {
				c := through(l...)
				if got := Right(c, k); got != slowRight(c, k) {
					t.Error("P10.1: Right", c, k, "is", got)
				}
			}
		}
		if got := Right(through(at(0, 0)), k); got != (k >= 0 && k <= 28) {
			t.Error("P10.1: Right of (0, 0),", k, "is", got)
		}
	}
	for _, k := range []int{math.MinInt, math.MaxInt, 1 << 32, -1 << 32, 64} {
		if Right(through(at(0, 0)), k) {
			t.Error("P10.1: Right of no rung", k)
		}
	}
}

func TestRightWays(t *testing.T) {
	for i, x := range []struct {
		c  Chain
		is bool
	}{
		{Chain{}, false},
		{Chain{D: []int{1}}, false},
		{Chain{V: row(3, 4)}, true},
		{Chain{V: row(3, 4), D: []int{1}}, false},
		{Chain{V: row(3, 4, 5, 4)}, false},
		{Chain{V: row(3, 4, 5, 4), D: []int{1}}, true},
		{Chain{V: row(3, 4, 3, 4), D: []int{1}}, false},
		{Chain{V: row(0, 0, 2, 1, 2, 1), D: []int{1, 1}}, false},
		{Chain{V: row(0, 0, 2, 1, 0, 0), D: []int{1, 1}}, false},
		{Chain{V: row(0, 0, 2, 1, 4, 0), D: []int{2, 2}}, false},
		{Chain{V: row(0, 0, 2, 1, 4, 1), D: []int{2, 2}}, true},
		{Chain{V: row(0, 0, 2, 0, 1, 0), D: []int{1, 1}}, false},
		{Chain{V: row(0, 0, 0, -2, 0, -1), D: []int{1, 1}}, false},
		{Chain{V: row(0, 0, 1, 0, 1, 3, 1, 2), D: []int{1, 1, 1}}, false},
		{Chain{V: row(0, 0, 1, 0, 1, 3, 0, 3), D: []int{1, 1, 1}}, false},
		{Chain{V: row(0, 0, -1, 0, -1, 3, -5, 3), D: []int{1, 1, 1}}, true},
		{Chain{V: row(0, 0, 1, -1, 1, -3, 5, -3), D: []int{1, 1 << 20, 7}}, true},
		{Chain{V: row(0, 0, 1, 0), D: []int{1<<20 + 1}}, false},
		{Chain{V: row(0, 0, 1, 0), D: []int{0}}, false},
	} {
		if got := Right(x.c, 0); got != x.is {
			t.Error("P10.1: Right: line", i, "is", got)
		}
	}
}

func TestDepth(t *testing.T) {
	for n := range 4 {
		eachRow([]int{0, 1, 2, -1, 1 << 20, 1 << 40, math.MaxInt, math.MinInt}, n, func(d []int) {
			want := 0
			for _, m := range slices.Sorted(slices.Values(d)) {
				if m > 0 {
					want = m
				}
			}
			if got := Depth(Chain{D: d}); got != want {
				t.Error("P10.1: Depth of", d, "is", got)
			}
		})
	}
	if got := Depth(Chain{V: row(7, 8, 9, 9)}); got != 0 {
		t.Error("P10.1: Depth of no links is", got)
	}
}

// few tells chains, right ones and others, no two of which are the same.
func few() (l []Chain) {
	for n := range 4 {
		eachRow(row(0, 0, 0, 1, 1, 0), n, func(v []grid.Pixel) {
			for m := range 3 {
				eachRow([]int{1, 2, -5}, m, func(d []int) {
					l = append(l, Chain{V: slices.Clone(v), D: slices.Clone(d)})
				})
			}
		})
	}
	return l
}

func TestSame(t *testing.T) {
	l := few()
	for i, a := range l {
		for j, b := range l {
			if got := Same(a, b); got != (i == j) {
				t.Error("P10.1: Same", a, b, "is", got)
			}
		}
		b := Chain{V: slices.Clone(a.V), D: slices.Clone(a.D)}
		if !Same(a, b) || !Same(b, a) {
			t.Error("P10.1: Same of its like:", a)
		}
	}
	for _, x := range [][2]Chain{
		{{}, {V: []grid.Pixel{}, D: []int{}}},
		{{V: row(1, 2)}, {V: row(1, 2), D: []int{}}},
		{{D: []int{4}}, {V: []grid.Pixel{}, D: []int{4}}},
	} {
		if !Same(x[0], x[1]) || !Same(x[1], x[0]) {
			t.Error("P10.1, R3: Same", x)
		}
	}
}

func TestClone(t *testing.T) {
	for _, c := range few() {
		d := Clone(c)
		if !slices.Equal(d.V, c.V) || !slices.Equal(d.D, c.D) {
			t.Error("P10.1: Clone of", c, "is", d)
		}
	}
}
