package rung

import (
	"testing"

	"cobweb/api"
	"cobweb/grid"
	"cobweb/input"
)

// mixer tells numbers of all sizes that look mixed, the same ones each time.
func mixer() func() int {
	seed := uint64(12)
	next := func() uint64 {
		seed ^= seed << 13
		seed ^= seed >> 7
		seed ^= seed << 17
		return seed
	}
	return func() int { return int(int64(next()) >> (next() % 64)) }
}

// below gives what tells mixed numbers from 0 on, below n.
func below(next func() int) func(n int) int {
	return func(n int) int { return int(uint(next()) % uint(n)) }
}

// at tells the pixel with these numbers.
func at(x, y int) grid.Pixel { return grid.Pixel{X: x, Y: y} }

// point tells the point with these numbers.
func point(x, y int) api.Point { return api.Point{X: x, Y: y} }

// row tells pixels, by their numbers: X, Y, X, Y and so on.
func row(numbers ...int) (l []grid.Pixel) {
	for i := 0; i+1 < len(numbers); i += 2 {
		l = append(l, at(numbers[i], numbers[i+1]))
	}
	return l
}

// edges tells edges, each by four numbers: those of its P, and those of its Q.
func edges(numbers ...int) (e []input.Edge) {
	for i := 0; i+3 < len(numbers); i += 4 {
		e = append(e, input.Edge{P: point(numbers[i], numbers[i+1]), Q: point(numbers[i+2], numbers[i+3]), Of: i / 4 % 2})
	}
	return e
}

// someEdges tells n edges of points whose numbers are from low on, below high; one in three begins where the one ahead of
// it ends.
func someEdges(next func() int, n, low, high int) (e []input.Edge) {
	number := func() int { return low + below(next)(high-low) }
	for i := range n {
		x := input.Edge{P: point(number(), number()), Q: point(number(), number()), Of: i % 2}
		if i > 0 && i%3 == 0 {
			x.P = e[i-1].Q
		}
		e = append(e, x)
	}
	return e
}

// job is what a rung is given.
type job struct {
	e       []input.Edge
	k, room int
}

// byHand tells jobs of all kinds.
func byHand() []job {
	crossed := edges(0, 0, 4, 4, 0, 4, 4, 0)
	return []job{
		{nil, 3, 5},
		{edges(0, 0, 4, 0), 0, 5},
		{edges(3, 3, 3, 3), 0, 5},
		{edges(3, 3, 3, 3, 3, 3, 3, 3), 0, 5},
		{edges(3, 3, 3, 3, 4, 3, 4, 3, 4, 4, 4, 4), 1, 5},
		{edges(3, 3, 3, 3, 0, 3, 6, 3), 0, 5},
		{edges(0, 3, 6, 3, 3, 3, 3, 3), 0, 5},
		{edges(0, 0, 4, 0, 0, 0, 4, 0), 0, 5},
		{edges(0, 0, 4, 0, 4, 0, 0, 0), 0, 5},
		{edges(0, 0, 4, 0, 2, 0, 7, 0), 0, 5},
		{edges(0, 0, 7, 0, 2, 0, 5, 0, 5, 0, 2, 0), 0, 9},
		{crossed, 0, 5},
		{crossed, 0, 4},
		{crossed, 0, 3},
		{crossed, 1, 5},
		{crossed, 2, 5},
		{crossed, 3, 5},
		{edges(0, 0, 4, 0, 4, 0, 4, 4, 4, 4, 0, 4, 0, 4, 0, 0), 0, 4},
		{edges(0, 0, 4, 0, 4, 0, 4, 4, 4, 4, 0, 4, 0, 4, 0, 0), 1, 4},
		{edges(0, 0, 4, 0, 4, 0, 4, 4, 4, 4, 0, 4, 0, 4, 0, 0), 3, 4},
		{edges(0, 0, 7, 1, 3, 2, 3, -2, 4, 0, 4, 0), 0, 20},
		{edges(0, 0, 9, 4, 0, 4, 9, 0, 1, 3, 8, 2, 4, 5, 5, -1, 2, 0, 7, 5), 0, 80},
		{edges(0, 0, 9, 4, 0, 4, 9, 0, 1, 3, 8, 2, 4, 5, 5, -1, 2, 0, 7, 5), 1, 80},
		{edges(-9, -5, 8, 7, 5, -7, -6, 9, -9, 6, 9, -6, 0, 0, 1, 9), 2, 80},
	}
}

// mixed tells jobs of up to most edges that are near each other, of some rungs, with room enough.
func mixed(next func() int, n, most int) (l []job) {
	upTo := below(next)
	for i := range n {
		k := i % 4
		wide := (4 + upTo(9)) << k >> (k / 2)
		l = append(l, job{someEdges(next, 1+upTo(most), -wide, wide), k, api.MaxCap})
	}
	return l
}

// tight tells jobs whose edges are far longer than they are apart, and whose points are not centers, so that links
// cross that did not as edges.
func tight(next func() int, n int) (l []job) {
	upTo := below(next)
	for range n {
		k := 1 + upTo(3)
		number := func(most int) int { return upTo(2*most<<k+1) - most<<k }
		var e []input.Edge
		for range 2 + upTo(4) {
			e = append(e, edges(number(1)-9<<k, number(4), number(1)+9<<k, number(4))...)
		}
		for range upTo(3) {
			x, y := number(9), number(4)
			e = append(e, edges(x, y, x+upTo(3)-1, y+upTo(3)-1)...)
		}
		l = append(l, job{e, k, api.MaxCap})
	}
	return l
}

// made tells a new rung for a job.
func made(t *testing.T, j job) *Rung {
	t.Helper()
	r := New(j.e, j.k, j.room)
	if r == nil {
		t.Fatal("P12.1: New of", j, "is nothing")
	}
	return r
}
