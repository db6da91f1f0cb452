package cross

import (
	"math"
	"math/big"
	"slices"
	"testing"

	"cobweb/api"
	"cobweb/frac"
	"cobweb/plane"
	"cobweb/wide"
)

// at tells the point with these numbers.
func at(x, y int) api.Point { return api.Point{X: x, Y: y} }

// over tells the fraction n over d.
func over(n, d int) frac.Frac {
	f, _ := frac.Make(wide.Of(int64(n)), wide.Of(int64(d)))
	return f
}

// placeAt tells the meeting in that place, of whole numbers.
func placeAt(x, y int) Meeting { return Meeting{Kind: Place, X: frac.Of(x), Y: frac.Of(y)} }

// placeOver tells the meeting in the place whose numbers are m over d, and n over d.
func placeOver(m, n, d int) Meeting { return Meeting{Kind: Place, X: over(m, d), Y: over(n, d)} }

// along tells the meeting from p to q.
func along(p, q api.Point) Meeting { return Meeting{Kind: Along, P: p, Q: q} }

// alike tells whether two meetings are the same; fractions are, if they are as great, and both right, or both zero.
func alike(m, n Meeting) bool {
	as := func(f, g frac.Frac) bool {
		if !frac.Right(f) || !frac.Right(g) {
			return f == g
		}
		return frac.Cmp(f, g) == 0
	}
	return m.Kind == n.Kind && m.P == n.P && m.Q == n.Q && as(m.X, n.X) && as(m.Y, n.Y)
}

// turned tells the four points with either segment turned round or not, and both changed or not: the given ones first.
func turned(l [4]api.Point) (all [][4]api.Point) {
	a, b, c, d := l[0], l[1], l[2], l[3]
	return [][4]api.Point{
		{a, b, c, d}, {b, a, c, d}, {a, b, d, c}, {b, a, d, c},
		{c, d, a, b}, {d, c, a, b}, {c, d, b, a}, {d, c, b, a},
	}
}

// pointsFrom tells all points whose numbers are from low to high.
func pointsFrom(low, high int) (l []api.Point) {
	for x := low; x <= high; x++ {
		for y := low; y <= high; y++ {
			l = append(l, at(x, y))
		}
	}
	return l
}

// mixer gives numbers of all lengths, by a fixed rule that looks like chance.
func mixer() func() int {
	seed := uint64(5)
	next := func() uint64 {
		seed ^= seed << 13
		seed ^= seed >> 7
		seed ^= seed << 17
		return seed
	}
	return func() int { return int(int64(next()) >> (next() % 64)) }
}

// number tells one that a right point may have, often at the ends of what is right, or close to them.
func number(next func() int) int {
	n := next()
	switch next() & 3 {
	case 0:
		return Far - n&3
	case 1:
		return -Far + n&3
	case 2:
		return n % 5
	}
	return n % (Far + 1)
}

// wrongPoints tells some of which one number is not right, or both are not.
func wrongPoints() (l []api.Point) {
	for _, n := range []int{Far + 1, -Far - 1, Far + 2, 1 << 28, -1 << 28, 1 << 29, 1<<29 + 1, 1 << 32, 1<<32 + 1, -1 << 32, 1 << 62, math.MaxInt, math.MinInt, math.MinInt + 1} {
		l = append(l, at(n, 0), at(0, n), at(n, Far), at(-Far, n), at(n, n))
	}
	return l
}

// bigFrac tells the number that a right fraction is.
func bigFrac(f frac.Frac) *big.Rat {
	whole := func(a wide.Int) *big.Int {
		n := new(big.Int).Lsh(big.NewInt(a.Hi), 64)
		return n.Add(n, new(big.Int).SetUint64(a.Lo))
	}
	return new(big.Rat).SetFrac(whole(f.N), whole(f.D))
}

// ratOf tells n.
func ratOf(n int) *big.Rat { return new(big.Rat).SetInt64(int64(n)) }

// bigCross tells how far the place (x, y) is to the left of the line from a to b, times how long that is.
func bigCross(a, b api.Point, x, y *big.Rat) *big.Rat {
	up := new(big.Rat).Mul(ratOf(b.X-a.X), new(big.Rat).Sub(y, ratOf(a.Y)))
	right := new(big.Rat).Mul(ratOf(b.Y-a.Y), new(big.Rat).Sub(x, ratOf(a.X)))
	return up.Sub(up, right)
}

// isOn tells whether the place (x, y) is on the segment from a to b.
func isOn(x, y *big.Rat, a, b api.Point) bool {
	within := func(v *big.Rat, m, n int) bool {
		return v.Cmp(ratOf(min(m, n))) >= 0 && v.Cmp(ratOf(max(m, n))) <= 0
	}
	return within(x, a.X, b.X) && within(y, a.Y, b.Y) && bigCross(a, b, x, y).Sign() == 0
}

// part is what is left of a segment: from one share of it to another one, 0 being its first end, 1 its last one.
type part struct{ from, to *big.Rat }

// cut leaves those shares at which what goes evenly from atFrom, at share 0, to atTo, at share 1, is not below 0.
func (p *part) cut(atFrom, atTo *big.Rat) {
	rise := new(big.Rat).Sub(atTo, atFrom)
	if rise.Sign() == 0 {
		if atFrom.Sign() < 0 {
			p.from, p.to = ratOf(1), ratOf(0)
		}
		return
	}
	share := new(big.Rat).Quo(new(big.Rat).Neg(atFrom), rise)
	if rise.Sign() > 0 && share.Cmp(p.from) > 0 {
		p.from = share
	}
	if rise.Sign() < 0 && share.Cmp(p.to) < 0 {
		p.to = share
	}
}

// slow tells what two segments have in common, and whether they have ends alone in common, or all. It leaves of the
// first one, side by side, what is on the second one's line, and in its box.
func slow(l [4]api.Point) (m Meeting, ends bool) {
	a, b, c, d := l[0], l[1], l[2], l[3]
	left := &part{ratOf(0), ratOf(1)}
	line := func(p api.Point) *big.Rat { return bigCross(c, d, ratOf(p.X), ratOf(p.Y)) }
	minus := func(r *big.Rat) *big.Rat { return new(big.Rat).Neg(r) }
	left.cut(line(a), line(b))
	left.cut(minus(line(a)), minus(line(b)))
	left.cut(ratOf(a.X-min(c.X, d.X)), ratOf(b.X-min(c.X, d.X)))
	left.cut(ratOf(max(c.X, d.X)-a.X), ratOf(max(c.X, d.X)-b.X))
	left.cut(ratOf(a.Y-min(c.Y, d.Y)), ratOf(b.Y-min(c.Y, d.Y)))
	left.cut(ratOf(max(c.Y, d.Y)-a.Y), ratOf(max(c.Y, d.Y)-b.Y))
	if left.from.Cmp(left.to) > 0 {
		return Meeting{}, true
	}
	placeOf := func(share *big.Rat) (x, y *big.Rat) {
		x = new(big.Rat).Mul(share, ratOf(b.X-a.X))
		y = new(big.Rat).Mul(share, ratOf(b.Y-a.Y))
		return x.Add(x, ratOf(a.X)), y.Add(y, ratOf(a.Y))
	}
	x, y := placeOf(left.from)
	isPoint := func(p api.Point) bool { return x.Cmp(ratOf(p.X)) == 0 && y.Cmp(ratOf(p.Y)) == 0 }
	if left.from.Cmp(left.to) == 0 || a == b {
		return Meeting{Kind: Place, X: fracOf(x), Y: fracOf(y)}, (isPoint(a) || isPoint(b)) && (isPoint(c) || isPoint(d))
	}
	farX, farY := placeOf(left.to)
	// Only ends bound what two segments have in common, so these are whole numbers.
	p, q := at(int(x.Num().Int64()), int(y.Num().Int64())), at(int(farX.Num().Int64()), int(farY.Num().Int64()))
	if p.X > q.X || p.X == q.X && p.Y > q.Y {
		p, q = q, p
	}
	is := func(a, b api.Point) bool { return p == a && q == b || p == b && q == a }
	return along(p, q), is(a, b) && is(c, d)
}

// fracOf tells the fraction that is r.
func fracOf(r *big.Rat) frac.Frac {
	whole := func(n *big.Int) wide.Int {
		hi := new(big.Int).Rsh(n, 64)
		lo := new(big.Int).Sub(n, new(big.Int).Lsh(hi, 64))
		return wide.Int{Hi: hi.Int64(), Lo: lo.Uint64()}
	}
	return frac.Frac{N: whole(r.Num()), D: whole(r.Denom())}
}

// check holds Meet and Ends against what is wanted, and against themselves with the segments turned, and changed.
func check(t *testing.T, l [4]api.Point, want Meeting, ends bool) {
	t.Helper()
	first := Meet(l[0], l[1], l[2], l[3])
	for _, x := range turned(l) {
		got := Meet(x[0], x[1], x[2], x[3])
		if !alike(got, want) {
			t.Error("P5.2: Meet", x, "is", got, "not", want)
		}
		if got != first {
			t.Error("P5.4: Meet", x, "is", got, "but of", l, "it is", first)
		}
		if is := Ends(x[0], x[1], x[2], x[3]); is != ends {
			t.Error("P5.3: Ends", x, "is", is)
		}
	}
	checkOnBoth(t, l, first)
}

// checkOnBoth holds what is told against both segments: all of it must be on them, and in order.
func checkOnBoth(t *testing.T, l [4]api.Point, m Meeting) {
	t.Helper()
	onBoth := func(x, y *big.Rat) bool { return isOn(x, y, l[0], l[1]) && isOn(x, y, l[2], l[3]) }
	switch m.Kind {
	case None:
		if m != (Meeting{}) {
			t.Error("P5.2: Meet", l, "is None, but", m)
		}
	case Place:
		if !frac.Right(m.X) || !frac.Right(m.Y) || m.P != at(0, 0) || m.Q != at(0, 0) {
			t.Error("P5.2: Meet", l, "is", m)
		} else if !onBoth(bigFrac(m.X), bigFrac(m.Y)) {
			t.Error("P5.4: Meet", l, "is", m, "which is not on both")
		}
	case Along:
		if m.X != (frac.Frac{}) || m.Y != (frac.Frac{}) || plane.Cmp(m.P, m.Q) != -1 {
			t.Error("P5.2: Meet", l, "is", m)
		}
		if !onBoth(ratOf(m.P.X), ratOf(m.P.Y)) || !onBoth(ratOf(m.Q.X), ratOf(m.Q.Y)) {
			t.Error("P5.2: Meet", l, "is", m, "which is not on both")
		}
	}
}

func TestFarAndKinds(t *testing.T) {
	if Far != 134217728 {
		t.Error("P5.1: Far is", Far)
	}
	if None != 0 || Place != 1 || Along != 2 {
		t.Error("P5.2: the kinds are", None, Place, Along)
	}
}

func TestRight(t *testing.T) {
	for _, n := range []int{0, 1, -1, Far - 1, -Far + 1, Far, -Far} {
		for _, p := range []api.Point{at(n, 0), at(0, n), at(n, n), at(n, -n), at(n, Far), at(-Far, n)} {
			if !Right(p) {
				t.Error("P5.1: Right", p)
			}
		}
	}
	for _, p := range wrongPoints() {
		if Right(p) {
			t.Error("P5.1: Right", p)
		}
	}
}

// example is two segments, and what is told of them.
type example struct {
	l    [4]api.Point
	want Meeting
	ends bool
}

// checkAll checks all of these.
func checkAll(t *testing.T, l []example) {
	t.Helper()
	for _, x := range l {
		check(t, x.l, x.want, x.ends)
	}
}

// four tells the four points with these numbers.
func four(ax, ay, bx, by, cx, cy, dx, dy int) [4]api.Point {
	return [4]api.Point{at(ax, ay), at(bx, by), at(cx, cy), at(dx, dy)}
}

func TestSegmentsThatCross(t *testing.T) {
	checkAll(t, []example{
		{four(0, 0, 3, 3, 0, 1, 1, 0), placeOver(1, 1, 2), false},
		{four(0, 0, 4, 4, 0, 4, 4, 0), placeAt(2, 2), false},
		{four(0, 0, 4, 0, 2, -2, 2, 2), placeAt(2, 0), false},
		{four(0, 0, 3, 1, 0, 1, 2, 0), placeOver(6, 2, 5), false},
		{four(0, 0, -3, -1, 0, -1, -2, 0), placeOver(-6, -2, 5), false},
		{four(-1, -2, 2, 5, -3, 1, 7, 0), placeOver(11, 50, 73), false},
		// Their boxes meet, but they do not.
		{four(0, 0, 4, 4, 3, 0, 4, 1), Meeting{}, true},
		{four(0, 0, 4, 4, 1, 0, 5, 2), Meeting{}, true},
		// The line of either one meets the other one, which itself does not.
		{four(0, 0, 4, 0, 2, 1, 2, 5), Meeting{}, true},
		{four(0, 0, 4, 0, 5, -3, 5, 3), Meeting{}, true},
		{four(0, 0, 4, 0, 5, 1, 6, 3), Meeting{}, true},
	})
}

func TestSegmentsThatMeetInEnds(t *testing.T) {
	checkAll(t, []example{
		{four(0, 0, 3, 1, 3, 1, 5, 9), placeAt(3, 1), true},
		{four(0, 0, 3, 1, 0, 0, 1, 3), placeAt(0, 0), true},
		{four(-7, 2, -7, 9, -7, 9, -9, 9), placeAt(-7, 9), true},
		// An end, and an inner place.
		{four(0, 0, 4, 2, 2, 1, 2, 7), placeAt(2, 1), false},
		{four(0, 0, 4, 2, 2, 1, 9, 0), placeAt(2, 1), false},
		{four(0, 0, 4, 0, 3, 0, 3, -1), placeAt(3, 0), false},
		// Just past one another.
		{four(0, 0, 4, 2, 2, 2, 2, 7), Meeting{}, true},
		{four(0, 0, 4, 2, 5, 2, 5, 7), Meeting{}, true},
	})
}

func TestSegmentsOnOneLine(t *testing.T) {
	checkAll(t, []example{
		{four(0, 0, 2, 1, 4, 2, 6, 3), Meeting{}, true},
		{four(0, 0, 0, 2, 0, 3, 0, 5), Meeting{}, true},
		{four(0, 0, 2, 0, 3, 0, 5, 0), Meeting{}, true},
		{four(0, 0, 2, 1, 2, 1, 6, 3), placeAt(2, 1), true},
		{four(0, 0, 0, -2, 0, -2, 0, -5), placeAt(0, -2), true},
		{four(0, 0, 4, 2, 2, 1, 6, 3), along(at(2, 1), at(4, 2)), false},
		{four(0, 4, 4, 0, 1, 3, 3, 1), along(at(1, 3), at(3, 1)), false},
		{four(0, 0, 6, 3, 0, 0, 2, 1), along(at(0, 0), at(2, 1)), false},
		{four(0, 0, 6, 3, 4, 2, 6, 3), along(at(4, 2), at(6, 3)), false},
		{four(5, -1, 5, 7, 5, 2, 5, 9), along(at(5, 2), at(5, 7)), false},
		{four(0, 0, 4, 2, 0, 0, 4, 2), along(at(0, 0), at(4, 2)), true},
		{four(3, -3, 3, 3, 3, -3, 3, 3), along(at(3, -3), at(3, 3)), true},
		{four(0, 4, 4, 0, 0, 4, 4, 0), along(at(0, 4), at(4, 0)), true},
		// Side by side.
		{four(0, 0, 4, 2, 0, 1, 4, 3), Meeting{}, true},
		{four(0, 0, 4, 2, 2, 2, 6, 4), Meeting{}, true},
		{four(0, 0, 4, 0, 0, 1, 4, 1), Meeting{}, true},
		{four(0, 0, 0, 4, 1, 0, 1, 4), Meeting{}, true},
	})
}

func TestSegmentsOfOnePoint(t *testing.T) {
	checkAll(t, []example{
		{four(3, 4, 3, 4, 3, 4, 3, 4), placeAt(3, 4), true},
		{four(0, 0, 0, 0, 0, 0, 0, 0), placeAt(0, 0), true},
		{four(3, 4, 3, 4, 3, 5, 3, 5), Meeting{}, true},
		{four(3, 4, 3, 4, 4, 4, 4, 4), Meeting{}, true},
		{four(0, 0, 0, 0, 0, 0, 4, 2), placeAt(0, 0), true},
		{four(4, 2, 4, 2, 0, 0, 4, 2), placeAt(4, 2), true},
		{four(2, 1, 2, 1, 0, 0, 4, 2), placeAt(2, 1), false},
		{four(2, 2, 2, 2, 0, 0, 4, 2), Meeting{}, true},
		{four(2, 0, 2, 0, 0, 0, 4, 2), Meeting{}, true},
		{four(6, 3, 6, 3, 0, 0, 4, 2), Meeting{}, true},
		{four(-2, -1, -2, -1, 0, 0, 4, 2), Meeting{}, true},
		{four(0, 3, 0, 3, 0, 0, 0, 2), Meeting{}, true},
	})
}

func TestSegmentsFarOff(t *testing.T) {
	checkAll(t, []example{
		{four(-Far, -Far, Far, Far, -Far, Far, Far, -Far), placeAt(0, 0), false},
		{four(-Far, -Far, Far, Far, -Far, Far-1, Far, -Far), placeOver(-Far, -Far, 4*Far-1), false},
		{four(-Far, -Far, Far, Far, -Far, -Far, Far, Far), along(at(-Far, -Far), at(Far, Far)), true},
		{four(-Far, -Far, Far, Far, -Far, -Far, 0, 0), along(at(-Far, -Far), at(0, 0)), false},
		{four(-Far, -Far, Far, -Far, Far, -Far, Far, Far), placeAt(Far, -Far), true},
		{four(-Far, Far, Far, Far, Far, Far, Far, Far), placeAt(Far, Far), true},
		{four(-Far, Far, Far, Far, 1, Far, 1, Far), placeAt(1, Far), false},
		{four(-Far, -Far, Far, Far, -Far, -Far+1, Far-1, Far), Meeting{}, true},
		{four(-Far, -Far, Far, Far-1, -Far, -Far+1, Far, Far), Meeting{}, true},
		// Two that hardly turn from one another cross in the middle.
		{four(-Far, -Far, Far, Far-1, -Far, -Far+1, Far, Far-2), placeOver(0, -1, 2), false},
		{four(-Far, -Far, -Far, Far, Far, -Far, Far, Far), Meeting{}, true},
	})
}

// TestAmongFewPoints goes through all segments among 25 points.
func TestAmongFewPoints(t *testing.T) {
	points := pointsFrom(-2, 2)
	var segments [][2]api.Point
	for i, a := range points {
		for _, b := range points[i:] {
			segments = append(segments, [2]api.Point{a, b})
		}
	}
	for i, s := range segments {
		for _, o := range segments[i:] {
			l := [4]api.Point{s[0], s[1], o[0], o[1]}
			want, ends := slow(l)
			check(t, l, want, ends)
		}
	}
}

func TestMixedSegments(t *testing.T) {
	next := mixer()
	for range 10000 {
		var l [4]api.Point
		for i := range l {
			l[i] = at(number(next), number(next))
		}
		want, ends := slow(l)
		check(t, l, want, ends)
	}
}

// throughOnePoint tells segments that go through one point, or end there, on one line or two, or have an end moved by
// a step from there; some are not right.
func throughOnePoint(next func() int) (l [4]api.Point) {
	x, y := number(next), number(next)
	way := func() api.Point { return at(next()%(Far/4), next()%(Far/4)) }
	v, w := way(), way()
	if next()&1 == 0 {
		w = v
	}
	going := func(v api.Point, n int) api.Point { return at(x+v.X*n, y+v.Y*n) }
	l = [4]api.Point{going(v, -(next() & 3)), going(v, next()&3), going(w, -(next() & 3)), going(w, next()&3)}
	if next()&1 == 0 {
		end := &l[next()&3]
		*end = at(end.X+next()%2, end.Y+next()%2)
	}
	return l
}

func TestSegmentsThroughOnePoint(t *testing.T) {
	next := mixer()
	var kinds, ended [3]int
	for range 40000 {
		l := throughOnePoint(next)
		if slices.ContainsFunc(l[:], func(p api.Point) bool { return !Right(p) }) {
			continue
		}
		want, ends := slow(l)
		check(t, l, want, ends)
		kinds[want.Kind]++
		if ends {
			ended[want.Kind]++
		}
	}
	// Should these be few, the segments are not such as this test is for.
	if min(kinds[None], kinds[Along], kinds[Place]-ended[Place], ended[Place], ended[Along]) < 200 {
		t.Error("of each kind there were", kinds, "and of these met as Ends wants", ended)
	}
}

func TestWrongPointsMeetNothing(t *testing.T) {
	others := [][3]api.Point{
		{at(0, 0), at(0, 0), at(0, 0)},
		{at(-5, -5), at(-5, 5), at(5, -5)},
		{at(0, 0), at(Far, 0), at(0, Far)},
		{at(-Far, -Far), at(Far, Far), at(-Far, Far)},
	}
	for _, p := range wrongPoints() {
		all := [][4]api.Point{{p, p, p, p}, {p, at(0, 0), p, at(0, 0)}, {p, p, at(0, 0), at(0, 0)}}
		for _, o := range others {
			all = append(all, [4]api.Point{p, o[0], o[1], o[2]})
		}
		for _, l := range all {
			check(t, l, Meeting{}, true)
		}
	}
}
