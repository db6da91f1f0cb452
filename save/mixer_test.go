package save

import (
	"math"
	"testing"

	"cobweb/api"
	"cobweb/chain"
	"cobweb/grid"
	"cobweb/input"
	"cobweb/ladder"
	"cobweb/rung"
)

// mixer tells numbers of all sizes that look mixed, the same ones each time.
func mixer() func() int {
	seed := uint64(14)
	next := func() uint64 {
		seed ^= seed << 13
		seed ^= seed >> 7
		seed ^= seed << 17
		return seed
	}
	return func() int { return int(int64(next()) >> (next() % 64)) }
}

// below gives what tells mixed numbers from 0 on, below n.
func below(next func() int) func(n int) int {
	return func(n int) int { return int(uint(next()) % uint(n)) }
}

// edgeNumbers tells those at which something changes: a digit more, a bit more, and the ends of int.
func edgeNumbers() []int {
	l := []int{0, math.MinInt, math.MinInt + 1, math.MaxInt, math.MaxInt - 1}
	for ten := 1; ten < math.MaxInt/10; ten *= 10 {
		l = append(l, ten-1, ten, ten+1, 1-ten, -ten, -ten-1, 7*ten, -7*ten)
	}
	for bit := range 62 {
		l = append(l, 1<<bit-1, 1<<bit, 1<<bit+1, -1<<bit-1, -1<<bit, -1<<bit+1)
	}
	return l
}

// ring tells a ring, by its points' numbers: X, Y, X, Y and so on.
func ring(numbers ...int) (r api.Ring) {
	for i := 0; i+1 < len(numbers); i += 2 {
		r = append(r, api.Point{X: numbers[i], Y: numbers[i+1]})
	}
	return r
}

// square tells that from (0, 0) to (n, n).
func square(n int) api.Ring { return ring(0, 0, n, 0, n, n, 0, n) }

// pixels tells pixels, by their numbers: X, Y, X, Y and so on.
func pixels(numbers ...int) (l []grid.Pixel) {
	for i := 0; i+1 < len(numbers); i += 2 {
		l = append(l, grid.Pixel{X: numbers[i], Y: numbers[i+1]})
	}
	return l
}

// of tells a job of these rings, the first one A's and the others B's.
func of(k, room int, a api.Ring, b ...api.Ring) input.Job {
	return input.Job{A: []api.Ring{a}, B: b, Rung: k, Cap: room}
}

// byHand tells jobs that may be, and that end on all sorts of rungs.
func byHand() []input.Job {
	star := ring(0, 9, 6, -8, -9, 3, 9, 3, -6, -8)
	bow := ring(0, 0, 4, 4, 4, 0, 0, 4)
	far := 1 << 26
	wide := ring(-far, -far, far, -far, far, far, -far, far)
	return []input.Job{
		of(0, 1, square(4)),
		of(0, 9, square(4)),
		{B: []api.Ring{square(4)}, Op: input.Xor, Fill: input.NonZero, Rung: 1, Cap: 4},
		of(28, 1, square(4)),
		of(0, 1, ring(5, 5, 5, 5, 5, 5)),
		of(0, 2, ring(5, 5, 5, 5, 9, 9)),
		of(0, 5, bow),
		of(1, 2, bow, square(3)),
		of(0, 9, star, square(4)),
		of(0, 30, star, square(4), bow),
		of(2, 6, star, star),
		of(0, 1, wide),
		of(0, 3, wide, star),
		of(26, 8, wide, ring(far, far, -far, -far, 1, 2)),
	}
}

// mixed tells n jobs that may be, of rings of mixed points, with room enough and with less.
func mixed(next func() int, n int) (l []input.Job) {
	upTo := below(next)
	for i := range n {
		size := 4 + upTo(12)
		if i%7 == 0 {
			size = 1 << (3 + upTo(24))
		}
		number := func() int { return upTo(2*size-1) - size + 1 }
		some := func(points int) (r api.Ring) {
			for range points {
				r = append(r, api.Point{X: number(), Y: number()})
			}
			return r
		}
		j := of(upTo(3), 1+upTo(20), some(3+upTo(3)))
		if i%2 == 0 {
			j.B = []api.Ring{some(3), some(3 + upTo(2))}
		}
		j.Op, j.Fill = i%4, i/4%2
		l = append(l, j)
	}
	return l
}

// anyJob tells a job with numbers of all sizes, and rings of any count of points, that hardly ever may be.
func anyJob(next func() int) input.Job {
	upTo := below(next)
	some := func() (l []api.Ring) {
		for range upTo(4) {
			var r api.Ring
			for range upTo(5) {
				r = append(r, api.Point{X: next(), Y: next()})
			}
			l = append(l, r)
		}
		return l
	}
	return input.Job{A: some(), B: some(), Op: next(), Fill: next(), Rung: next(), Cap: next()}
}

// anyState tells a state with numbers of all sizes, and rows of any length, that hardly ever may be.
func anyState(next func() int) rung.State {
	upTo := below(next)
	some := func() (l []grid.Pixel) {
		for range upTo(4) {
			l = append(l, grid.Pixel{X: next(), Y: next()})
		}
		return l
	}
	s := rung.State{K: next(), Room: next(), Phase: next(), I: next(), J: next(), T: next(), Dirty: upTo(2) == 1, Hot: some(), Found: some()}
	for range upTo(4) {
		c := chain.Chain{V: some()}
		for range upTo(4) {
			c.D = append(c.D, next())
		}
		s.Chains = append(s.Chains, c)
	}
	return s
}

// made tells a new ladder of a job that may be.
func made(t *testing.T, j input.Job) *ladder.Ladder {
	t.Helper()
	l, err := ladder.New(j)
	if l == nil || err != api.OK {
		t.Fatal("P13.1: New of", j, "answers", err)
	}
	return l
}
