package chain

import (
	"math/big"
	"slices"
	"testing"

	"cobweb/api"
	"cobweb/cross"
	"cobweb/grid"
)

// rat tells n over d.
func rat(n, d int) *big.Rat { return big.NewRat(int64(n), int64(d)) }

// isNear tells whether the place that is at of the way from p to q is no farther than far over 2 from m.
func isNear(p, q, m, far int, at *big.Rat) bool {
	place := new(big.Rat).Mul(rat(q-p, 1), at)
	place.Add(place, rat(p-m, 1))
	return place.Abs(place).Cmp(rat(far, 2)) <= 0
}

// places tells the ends of the segment and, rising, all places between them from which on, or up to which, it is near to
// a vertex in x, or in y: if one can go along it at all, then by stopping at these.
func places(c Chain, a, b api.Point, k, far int) (l []*big.Rat) {
	put := func(p, q, m int) {
		for _, n := range []int{2*(m-p) - far, 2*(m-p) + far} {
			if p == q {
				continue
			}
			if r := rat(n, 2*(q-p)); r.Sign() > 0 && r.Cmp(rat(1, 1)) < 0 {
				l = append(l, r)
			}
		}
	}
	for _, v := range c.V {
		put(a.X, b.X, v.X<<k)
		put(a.Y, b.Y, v.Y<<k)
	}
	l = append(l, rat(0, 1), rat(1, 1))
	slices.SortFunc(l, (*big.Rat).Cmp)
	return l
}

// slowFar tells what Close should, of what is right: which places can each vertex have, the ones ahead of it having theirs?
func slowFar(c Chain, a, b api.Point, k, far int) bool {
	l := places(c, a, b, k, far)
	near := func(v grid.Pixel, i int) bool {
		return isNear(a.X, b.X, v.X<<k, far, l[i]) && isNear(a.Y, b.Y, v.Y<<k, far, l[i])
	}
	can := make([]bool, len(l))
	can[0] = near(c.V[0], 0)
	for _, v := range c.V[1:] {
		next := make([]bool, len(l))
		for i := range l {
			next[i] = slices.Contains(can[:i+1], true) && near(v, i)
		}
		can = next
	}
	return slices.Contains(can, true) && near(c.V[len(c.V)-1], len(l)-1)
}

// along tells a chain of n vertices about a segment from a to b, from its one end to the other, now and then a bit back,
// and not far off it; all of them In.
func along(next func() int, a, b api.Point, k, n int) (c Chain) {
	upTo := below(next)
	off := 1 << upTo(28)
	for i := range n {
		come := 1 << 12 * i / max(n-1, 1)
		if upTo(3) == 0 {
			come -= upTo(1 << 10)
		}
		// What 2^12 leaves of the way is no farther than off, mostly; the product does not go round.
		p := point(a.X+(b.X-a.X)*come>>12+next()%off, a.Y+(b.Y-a.Y)*come>>12+next()%off)
		most := grid.Far >> k
		q := grid.Of(p, k)
		c.V = append(c.V, at(min(max(q.X, -most), most), min(max(q.Y, -most), most)))
	}
	if upTo(4) > 0 {
		c.V[0], c.V[n-1] = grid.Of(a, k), grid.Of(b, k)
		if !grid.In(c.V[0], k) || !grid.In(c.V[n-1], k) {
			c.V[0], c.V[n-1] = at(0, 0), at(0, 0)
		}
	}
	return c
}

// leastFar tells the least far with which it is close, and whether it is with any.
func leastFar(c Chain, a, b api.Point, k int) (int, bool) {
	if !Close(c, a, b, k, 1<<28) {
		return 0, false
	}
	low, high := 0, 1<<28
	for low < high {
		mid := (low + high) / 2
		if Close(c, a, b, k, mid) {
			high = mid
		} else {
			low = mid + 1
		}
	}
	return low, true
}

// turned tells l from its end on.
func turned(l []grid.Pixel) []grid.Pixel {
	l = slices.Clone(l)
	slices.Reverse(l)
	return l
}

// eachChanged tells l with each one's numbers changed.
func eachChanged(l []grid.Pixel, change func(x, y int) (int, int)) []grid.Pixel {
	l = slices.Clone(l)
	for i, q := range l {
		l[i].X, l[i].Y = change(q.X, q.Y)
	}
	return l
}

// checkAlike asks of the chain and the segment turned round, and in a mirror, and with x for y: it is the same.
func checkAlike(t *testing.T, c Chain, a, b api.Point, k, far int, want bool) {
	t.Helper()
	if got := Close(through(turned(c.V)...), b, a, k, far); got != want {
		t.Error("P10.3: Close", c.V, a, b, k, far, "turned round, is", got)
	}
	for i, change := range []func(x, y int) (int, int){
		func(x, y int) (int, int) { return -x, y },
		func(x, y int) (int, int) { return x, -y },
		func(x, y int) (int, int) { return y, x },
	} {
		var p, q api.Point
		p.X, p.Y = change(a.X, a.Y)
		q.X, q.Y = change(b.X, b.Y)
		if got := Close(through(eachChanged(c.V, change)...), p, q, k, far); got != want {
			t.Error("P10.3: Close", c.V, a, b, k, far, "changed in way", i, "is", got)
		}
	}
}

// hair tells whole numbers i, from 0 on, below m, and j, with i times n less j times m 1; m and n have no divisor in
// common.
func hair(m, n int) (i, j int) {
	g := new(big.Int)
	g.ModInverse(big.NewInt(int64(n)), big.NewInt(int64(m)))
	i = int(g.Int64())
	return i, (i*n - 1) / m
}

// TestCloseHair goes along segments as long as may be, by vertices of which the one behind has to be left, in y, at
// nearly the same place at which the one ahead of it may first be come to, in x.
func TestCloseHair(t *testing.T) {
	upTo := below(mixer())
	for range 300 {
		m, n := 1<<28-upTo(1<<20), 1<<28-upTo(1<<20)
		if new(big.Int).GCD(nil, nil, big.NewInt(int64(m)), big.NewInt(int64(n))).Cmp(big.NewInt(1)) != 0 {
			continue
		}
		i, j := hair(m, n)
		half := 1 + upTo(1<<10)
		a := point(-cross.Far, -cross.Far)
		b := point(a.X+m, a.Y+n)
		// The first one is come to at i over m, the second one left at j over n, which is just ahead of that.
		first, second := at(a.X+i+half, a.Y+j), at(a.X+i, a.Y+j-half)
		for _, x := range []struct {
			ahead, behind int
			is            bool
		}{{0, 0, false}, {1, 0, true}, {0, 1, true}} {
			v := []grid.Pixel{at(a.X, a.Y), first, second, at(b.X, b.Y)}
			v[1].X -= x.ahead
			v[2].Y += x.behind
			if got := Close(through(v...), a, b, 0, 2*half); got != x.is {
				t.Error("P10.3: Close", v, a, b, 0, 2*half, "is", got)
			}
			checkAlike(t, through(v...), a, b, 0, 2*half, x.is)
		}
	}
}

// TestCloseFar finds how far apart chains and segments of all sizes are, and holds that against places on the segment.
func TestCloseFar(t *testing.T) {
	next := mixer()
	upTo := below(next)
	number := func() int {
		n := next() % (cross.Far + 1)
		switch upTo(5) {
		case 0:
			return cross.Far - n&7
		case 1:
			return -cross.Far + n&7
		case 2:
			return n & 15
		}
		return n
	}
	told := map[string]int{}
	for i := range 6000 {
		k := i % 29
		a, b := point(number(), number()), point(number(), number())
		switch upTo(6) {
		case 0:
			b.X = a.X
		case 1:
			b.Y = a.Y
		}
		c := along(next, a, b, k, 1+upTo(6))
		least, is := leastFar(c, a, b, k)
		if !is {
			told["never"]++
			if slowFar(c, a, b, k, 1<<28) {
				t.Error("P10.3: Close", c.V, a, b, k, 1<<28, "is false")
			}
			continue
		}
		told["at"]++
		if !slowFar(c, a, b, k, least) {
			t.Error("P10.3: Close", c.V, a, b, k, least, "is true")
		}
		checkAlike(t, c, a, b, k, least, true)
		if least > 0 {
			told["just beyond"]++
			if slowFar(c, a, b, k, least-1) {
				t.Error("P10.3: Close", c.V, a, b, k, least-1, "is false")
			}
			checkAlike(t, c, a, b, k, least-1, false)
		}
	}
	if told["at"] < 2000 || told["just beyond"] < 2000 || told["never"] < 20 {
		t.Error("it was told", told)
	}
}
