package ladder

import (
	"testing"

	"cobweb/api"
	"cobweb/input"
)

// mixer tells numbers of all sizes that look mixed, the same ones each time.
func mixer() func() int {
	seed := uint64(13)
	next := func() uint64 {
		seed ^= seed << 13
		seed ^= seed >> 7
		seed ^= seed << 17
		return seed
	}
	return func() int { return int(int64(next()) >> (next() % 64)) }
}

// below gives what tells mixed numbers from 0 on, below n.
func below(next func() int) func(n int) int {
	return func(n int) int { return int(uint(next()) % uint(n)) }
}

// ring tells a ring, by its points' numbers: X, Y, X, Y and so on.
func ring(numbers ...int) (r api.Ring) {
	for i := 0; i+1 < len(numbers); i += 2 {
		r = append(r, api.Point{X: numbers[i], Y: numbers[i+1]})
	}
	return r
}

// square tells that from (0, 0) to (n, n).
func square(n int) api.Ring { return ring(0, 0, n, 0, n, n, 0, n) }

// of tells a job of these rings, the first one A's and the others B's.
func of(k, room int, a api.Ring, b ...api.Ring) input.Job {
	return input.Job{A: []api.Ring{a}, B: b, Rung: k, Cap: room}
}

// byHand tells jobs of all kinds, that end on all sorts of rungs.
func byHand() []input.Job {
	star := ring(0, 9, 6, -8, -9, 3, 9, 3, -6, -8)
	bow := ring(0, 0, 4, 4, 4, 0, 0, 4)
	far := 1 << 26
	wide := ring(-far, -far, far, -far, far, far, -far, far)
	return []input.Job{
		of(0, 1, square(4)),
		of(0, 3, square(4)),
		of(0, 4, square(4)),
		of(3, 1, square(4)),
		of(4, 1, square(4)),
		of(28, 1, square(4)),
		of(28, 1024, wide),
		of(0, 1, ring(5, 5, 5, 5, 5, 5)),
		of(0, 2, ring(5, 5, 5, 5, 9, 9)),
		of(0, 4, bow),
		of(0, 5, bow),
		of(1, 2, bow, square(3)),
		of(0, 9, star, square(4)),
		of(0, 30, star, square(4), bow),
		of(0, 1, star),
		of(2, 6, star, star),
		of(0, 1, wide),
		of(0, 3, wide, star),
		of(0, 4, wide, ring(far, far, -far, -far, 1, 2)),
		of(27, 1, wide, ring(far, far, -far, -far, 1, 2)),
		of(26, 8, wide, ring(far, far, -far, -far, 1, 2)),
	}
}

// mixed tells n jobs of rings of mixed points, with room enough and with less.
func mixed(next func() int, n int) (l []input.Job) {
	upTo := below(next)
	for i := range n {
		size := 4 + upTo(12)
		if i%7 == 0 {
			size = 1 << (3 + upTo(24))
		}
		number := func() int { return upTo(2*size-1) - size + 1 }
		some := func(points int) (r api.Ring) {
			for range points {
				r = append(r, api.Point{X: number(), Y: number()})
			}
			return r
		}
		j := of(upTo(3), 1+upTo(20), some(3+upTo(3)))
		if i%2 == 0 {
			j.B = []api.Ring{some(3), some(3 + upTo(2))}
		}
		j.Op, j.Fill = i%4, i/4%2
		l = append(l, j)
	}
	return l
}

// made tells a new ladder of a job that may be.
func made(t *testing.T, j input.Job) *Ladder {
	t.Helper()
	l, err := New(j)
	if l == nil || err != api.OK {
		t.Fatal("P13.1: New of", j, "answers", err)
	}
	return l
}
