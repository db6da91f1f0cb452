package input

import "cobweb/api"

// mixer tells numbers of all sizes that look mixed, the same ones each time.
func mixer() func() int {
	seed := uint64(11)
	next := func() uint64 {
		seed ^= seed << 13
		seed ^= seed >> 7
		seed ^= seed << 17
		return seed
	}
	return func() int { return int(int64(next()) >> (next() % 64)) }
}

// below gives what tells mixed numbers from 0 on, below n.
func below(next func() int) func(n int) int {
	return func(n int) int { return int(uint(next()) % uint(n)) }
}

// at tells the point with these numbers.
func at(x, y int) api.Point { return api.Point{X: x, Y: y} }

// ring tells a ring of points, each by two numbers.
func ring(numbers ...int) (r api.Ring) {
	for i := 0; i+1 < len(numbers); i += 2 {
		r = append(r, at(numbers[i], numbers[i+1]))
	}
	return r
}

// rings tells a list of rings.
func rings(l ...api.Ring) []api.Ring { return l }

// some tells a ring of so many points, all of them near.
func some(points int) (r api.Ring) {
	for i := range points {
		r = append(r, at(i%16, i/16+i*i%7))
	}
	return r
}

// moved tells rings in memory of their own, with each point as to makes it.
func moved(l []api.Ring, to func(p api.Point) api.Point) (m []api.Ring) {
	for _, r := range l {
		n := make(api.Ring, 0, len(r))
		for _, p := range r {
			n = append(n, to(p))
		}
		m = append(m, n)
	}
	return m
}

// apart tells rings in memory of their own.
func apart(l []api.Ring) []api.Ring { return moved(l, func(p api.Point) api.Point { return p }) }

// good tells a job that may be.
func good() Job {
	return Job{A: rings(ring(0, 0, 4, 0, 4, 4, 0, 4)), B: rings(ring(1, 1, 6, 2, 3, 7)), Op: Diff, Fill: NonZero, Rung: 3, Cap: 9}
}
