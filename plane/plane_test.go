package plane

import (
	"math"
	"math/big"
	"slices"
	"testing"

	"cobweb/api"
)

// at tells the point with these numbers.
func at(x, y int) api.Point { return api.Point{X: x, Y: y} }

// box tells the box between these numbers.
func box(lowX, lowY, highX, highY int) Box { return Box{Low: at(lowX, lowY), High: at(highX, highY)} }

// pointsFrom tells all points whose numbers are from low to high.
func pointsFrom(low, high int) (l []api.Point) {
	for x := low; x <= high; x++ {
		for y := low; y <= high; y++ {
			l = append(l, at(x, y))
		}
	}
	return l
}

// mixer gives numbers of all lengths, by a fixed rule that looks like chance.
func mixer() func() int {
	seed := uint64(4)
	next := func() uint64 {
		seed ^= seed << 13
		seed ^= seed >> 7
		seed ^= seed << 17
		return seed
	}
	return func() int { return int(int64(next()) >> (next() % 64)) }
}

// rightPoints tells right ones, many of them at the ends of what is right, or close to them.
func rightPoints(count int) []api.Point {
	next := mixer()
	number := func() int {
		n := next()
		switch next() & 3 {
		case 0:
			return Far - n&3
		case 1:
			return -Far + n&3
		case 2:
			return n % 5
		}
		return n % (Far + 1)
	}
	l := make([]api.Point, count)
	for i := range l {
		l[i] = at(number(), number())
	}
	return l
}

// wrongNumbers tells such as no right point has.
func wrongNumbers() []int {
	return []int{Far + 1, -Far - 1, Far + 2, 1 << 30, -1 << 30, 1 << 32, 1<<32 + 1, -1 << 32, 1 << 62, math.MaxInt, math.MinInt, math.MinInt + 1}
}

// wrongPoints tells some of which each number is not right, the other one being so, or both are not.
func wrongPoints() (l []api.Point) {
	for _, n := range wrongNumbers() {
		l = append(l, at(n, 0), at(0, n), at(n, Far), at(-Far, n), at(n, n))
	}
	return l
}

// bigCross tells what Cross is of, however many bits it has.
func bigCross(o, a, b api.Point) *big.Int {
	less := func(m, n int) *big.Int { return new(big.Int).Sub(big.NewInt(int64(m)), big.NewInt(int64(n))) }
	first := new(big.Int).Mul(less(a.X, o.X), less(b.Y, o.Y))
	second := new(big.Int).Mul(less(a.Y, o.Y), less(b.X, o.X))
	return first.Sub(first, second)
}

// goRound tells n as whole numbers of 64 bits go round.
func goRound(n *big.Int) int {
	rest := new(big.Int).And(n, new(big.Int).SetUint64(math.MaxUint64))
	return int(rest.Uint64())
}

func TestFar(t *testing.T) {
	if Far != 536870912 {
		t.Error("P4.1: Far is", Far)
	}
}

func TestRight(t *testing.T) {
	for _, n := range []int{0, 1, -1, Far - 1, -Far + 1, Far, -Far} {
		for _, p := range []api.Point{at(n, 0), at(0, n), at(n, n), at(n, -n), at(n, Far), at(-Far, n)} {
			if !Right(p) {
				t.Error("P4.1: Right", p)
			}
		}
	}
	for _, p := range wrongPoints() {
		if Right(p) {
			t.Error("P4.1: Right", p)
		}
	}
}

func TestCrossExamples(t *testing.T) {
	for i, x := range []struct {
		o, a, b api.Point
		want    int
	}{
		{at(0, 0), at(2, 0), at(1, 3), 6},
		{at(0, 0), at(1, 3), at(2, 0), -6},
		{at(5, -7), at(7, -7), at(6, -4), 6},
		{at(0, 0), at(2, 3), at(4, 6), 0},
		{at(0, 0), at(2, 3), at(-4, -6), 0},
		{at(3, 4), at(3, 4), at(9, 9), 0},
		{at(3, 4), at(9, 9), at(3, 4), 0},
		{at(3, 4), at(9, 9), at(9, 9), 0},
		{at(-Far, -Far), at(Far, -Far), at(-Far, Far), 1 << 60},
		{at(-Far, -Far), at(-Far, Far), at(Far, -Far), -1 << 60},
		{at(-Far, -Far), at(Far, Far), at(Far, Far-1), -1 << 30},
		{at(-Far, -Far), at(Far-1, Far-2), at(Far-2, Far-3), -1},
		{at(-Far, -Far), at(Far-2, Far-3), at(Far-1, Far-2), 1},
	} {
		if got := Cross(x.o, x.a, x.b); got != x.want {
			t.Error("P4.1: Cross: line", i, "is", got)
		}
	}
}

func TestCrossAndTurn(t *testing.T) {
	points := rightPoints(30000)
	for i := 0; i < len(points); i += 3 {
		o, a, b := points[i], points[i+1], points[i+2]
		want := bigCross(o, a, b)
		if got := Cross(o, a, b); big.NewInt(int64(got)).Cmp(want) != 0 {
			t.Error("P4.1: Cross", o, a, b, "is", got, "not", want)
		}
		if got := Turn(o, a, b); got != want.Sign() {
			t.Error("P4.1: Turn", o, a, b, "is", got, "not", want.Sign())
		}
	}
}

func TestTurnExamples(t *testing.T) {
	for i, x := range []struct {
		o, a, b api.Point
		want    int
	}{
		{at(0, 0), at(2, 0), at(1, 3), 1},
		{at(0, 0), at(2, 0), at(1, -3), -1},
		{at(0, 0), at(0, 2), at(-1, 5), 1},
		{at(0, 0), at(0, 2), at(1, 5), -1},
		{at(1, 1), at(3, 2), at(5, 3), 0},
		{at(1, 1), at(3, 2), at(-1, 0), 0},
		{at(1, 1), at(5, 3), at(3, 2), 0},
		{at(1, 1), at(1, 1), at(8, 2), 0},
		{at(1, 1), at(8, 2), at(1, 1), 0},
		{at(1, 1), at(1, 1), at(1, 1), 0},
		{at(-Far, -Far), at(Far, Far), at(0, 0), 0},
		{at(-Far, -Far), at(Far, Far), at(0, 1), 1},
		{at(-Far, -Far), at(Far, Far), at(1, 0), -1},
		{at(-Far, Far), at(Far, -Far), at(0, -1), -1},
		{at(-Far, -Far), at(Far-1, Far-2), at(Far-2, Far-3), -1},
	} {
		if got := Turn(x.o, x.a, x.b); got != x.want {
			t.Error("P4.1: Turn: line", i, "is", got)
		}
	}
}

func TestWrongPointsDoNotTurn(t *testing.T) {
	for _, p := range wrongPoints() {
		for i, l := range [][3]api.Point{{p, at(2, 0), at(1, 3)}, {at(2, 0), p, at(1, 3)}, {at(2, 0), at(1, 3), p}, {p, p, at(1, 3)}, {p, at(-p.Y, p.X), at(7, 1)}} {
			if got := Cross(l[0], l[1], l[2]); got != 0 {
				t.Error("P4.1: Cross", l, "is", got, "in case", i)
			}
			if got := Turn(l[0], l[1], l[2]); got != 0 {
				t.Error("P4.1: Turn", l, "is", got, "in case", i)
			}
		}
	}
}

func TestAround(t *testing.T) {
	for i, x := range []struct {
		a, b api.Point
		want Box
	}{
		{at(1, 2), at(3, 4), box(1, 2, 3, 4)},
		{at(3, 4), at(1, 2), box(1, 2, 3, 4)},
		{at(1, 4), at(3, 2), box(1, 2, 3, 4)},
		{at(3, 2), at(1, 4), box(1, 2, 3, 4)},
		{at(-5, 7), at(-5, 7), box(-5, 7, -5, 7)},
		{at(-5, 7), at(-5, -7), box(-5, -7, -5, 7)},
		{at(Far, -Far), at(-Far, Far), box(-Far, -Far, Far, Far)},
		{at(math.MaxInt, math.MinInt), at(math.MinInt, math.MaxInt), box(math.MinInt, math.MinInt, math.MaxInt, math.MaxInt)},
	} {
		if got := Around(x.a, x.b); got != x.want {
			t.Error("P4.2: Around: line", i, "is", got)
		}
	}
	points := pointsFrom(-2, 2)
	for _, a := range points {
		for _, b := range points {
			checkAround(t, a, b)
		}
	}
}

// checkAround holds Around against the words of the document: it has both, and no lesser box has.
func checkAround(t *testing.T, a, b api.Point) {
	got := Around(a, b)
	if !Holds(got, a) || !Holds(got, b) {
		t.Error("P4.2: Around", a, b, "is", got, "which has not both")
	}
	for _, less := range []Box{
		{at(got.Low.X+1, got.Low.Y), got.High}, {at(got.Low.X, got.Low.Y+1), got.High},
		{got.Low, at(got.High.X-1, got.High.Y)}, {got.Low, at(got.High.X, got.High.Y-1)},
	} {
		if Holds(less, a) && Holds(less, b) {
			t.Error("P4.2: Around", a, b, "is", got, "but", less, "has both")
		}
	}
}

func TestHolds(t *testing.T) {
	for i, x := range []struct {
		x    Box
		p    api.Point
		want bool
	}{
		{box(0, 0, 4, 2), at(2, 1), true},
		{box(0, 0, 4, 2), at(0, 0), true}, {box(0, 0, 4, 2), at(4, 2), true}, {box(0, 0, 4, 2), at(0, 2), true}, {box(0, 0, 4, 2), at(4, 0), true},
		{box(0, 0, 4, 2), at(-1, 1), false}, {box(0, 0, 4, 2), at(5, 1), false}, {box(0, 0, 4, 2), at(2, -1), false}, {box(0, 0, 4, 2), at(2, 3), false},
		{box(3, 3, 3, 3), at(3, 3), true}, {box(3, 3, 3, 3), at(3, 4), false}, {box(3, 3, 3, 3), at(2, 3), false},
		{Box{}, at(0, 0), true}, {Box{}, at(0, 1), false},
		{box(4, 0, 0, 2), at(2, 1), false}, {box(4, 0, 0, 2), at(4, 1), false}, {box(4, 0, 0, 2), at(0, 1), false},
		{box(0, 2, 4, 0), at(2, 1), false}, {box(0, 2, 4, 0), at(2, 2), false}, {box(0, 2, 4, 0), at(2, 0), false},
		{box(math.MinInt, math.MinInt, math.MaxInt, math.MaxInt), at(math.MaxInt, math.MinInt), true},
		{box(math.MaxInt, math.MaxInt, math.MinInt, math.MinInt), at(0, 0), false},
		{box(math.MinInt, 0, math.MinInt, 0), at(math.MaxInt, 0), false},
	} {
		if got := Holds(x.x, x.p); got != x.want {
			t.Error("P4.2: Holds: line", i, "is", got)
		}
	}
}

func TestMeetExamples(t *testing.T) {
	all := box(math.MinInt, math.MinInt, math.MaxInt, math.MaxInt)
	for i, x := range []struct {
		x, y Box
		want bool
	}{
		{box(0, 0, 4, 4), box(2, 2, 6, 6), true},
		{box(0, 0, 4, 4), box(4, 0, 8, 4), true},  // one side
		{box(0, 0, 4, 4), box(0, 4, 4, 8), true},  // one side
		{box(0, 0, 4, 4), box(4, 4, 8, 8), true},  // one corner
		{box(0, 4, 4, 8), box(4, 0, 8, 4), true},  // one corner
		{box(0, 0, 4, 4), box(5, 0, 8, 4), false}, // side by side
		{box(0, 0, 4, 4), box(0, 5, 4, 8), false},
		{box(0, 0, 4, 4), box(5, 5, 8, 8), false},
		{box(0, 0, 9, 9), box(3, 3, 4, 4), true},   // one in the other
		{box(0, 3, 9, 4), box(3, 0, 4, 9), true},   // a cross, no corner of which is in the other
		{box(0, 0, 0, 0), box(0, 0, 0, 0), true},   // one point
		{box(0, 0, 9, 9), box(5, 3, 4, 4), false},  // one that holds none, within
		{box(0, 0, 9, 9), box(3, 5, 4, 4), false},  // so
		{box(5, 0, 4, 9), box(5, 0, 4, 9), false},  // with itself
		{box(4, 4, 0, 0), box(0, 0, 4, 4), false},  // turned over
		{box(9, 0, 0, 9), box(3, 0, 12, 9), false}, // turned over, and reaching past its Low
		{all, all, true}, {all, box(3, 3, 3, 3), true}, {all, box(math.MaxInt, math.MinInt, math.MaxInt, math.MinInt), true},
		{box(math.MaxInt, 0, math.MaxInt, 0), box(math.MinInt, 0, math.MinInt, 0), false},
		{box(math.MaxInt, math.MaxInt, math.MinInt, math.MinInt), all, false},
	} {
		if got := Meet(x.x, x.y); got != x.want {
			t.Error("P4.2: Meet: line", i, "is", got)
		}
		if got := Meet(x.y, x.x); got != x.want {
			t.Error("P4.2: Meet: line", i, "with both changed is", got)
		}
	}
}

// TestMeet looks for a point that both hold, of all boxes among few points.
func TestMeet(t *testing.T) {
	points := pointsFrom(0, 3)
	var boxes []Box
	for _, low := range points {
		for _, high := range points {
			boxes = append(boxes, Box{low, high})
		}
	}
	for _, x := range boxes {
		for _, y := range boxes {
			want := slices.ContainsFunc(points, func(p api.Point) bool { return Holds(x, p) && Holds(y, p) })
			if got := Meet(x, y); got != want {
				t.Error("P4.2: Meet", x, y, "is", got)
			}
		}
	}
}

func TestOnExamples(t *testing.T) {
	for i, x := range []struct {
		p, a, b api.Point
		want    bool
	}{
		{at(2, 1), at(0, 0), at(4, 2), true},
		{at(0, 0), at(0, 0), at(4, 2), true}, {at(4, 2), at(0, 0), at(4, 2), true},
		{at(6, 3), at(0, 0), at(4, 2), false}, {at(-2, -1), at(0, 0), at(4, 2), false},
		{at(2, 2), at(0, 0), at(4, 2), false}, {at(2, 0), at(0, 0), at(4, 2), false},
		{at(2, 0), at(0, 0), at(4, 0), true}, {at(5, 0), at(0, 0), at(4, 0), false}, {at(2, 1), at(0, 0), at(4, 0), false},
		{at(0, 2), at(0, 4), at(0, 0), true}, {at(0, -1), at(0, 4), at(0, 0), false}, {at(1, 2), at(0, 4), at(0, 0), false},
		{at(3, 3), at(3, 3), at(3, 3), true}, {at(3, 4), at(3, 3), at(3, 3), false}, {at(5, 5), at(3, 3), at(3, 3), false},
		{at(0, 0), at(-Far, -Far), at(Far, Far), true}, {at(0, 1), at(-Far, -Far), at(Far, Far), false},
		{at(Far, Far), at(-Far, -Far), at(Far, Far), true}, {at(Far, -Far), at(-Far, Far), at(Far, -Far), true},
		{at(Far-2, Far-3), at(-Far, -Far), at(Far-1, Far-2), false},
	} {
		if got := On(x.p, x.a, x.b); got != x.want {
			t.Error("P4.2: On: line", i, "is", got)
		}
		if got := On(x.p, x.b, x.a); got != x.want {
			t.Error("P4.2: On: line", i, "turned round is", got)
		}
	}
}

// between tells whether p is on the segment, by going along it in equal parts from whole point to whole point.
func between(p, a, b api.Point) bool {
	dx, dy := b.X-a.X, b.Y-a.Y
	parts := int(new(big.Int).GCD(nil, nil, big.NewInt(int64(max(dx, -dx))), big.NewInt(int64(max(dy, -dy)))).Int64())
	if parts == 0 {
		return p == a
	}
	for i := range parts + 1 {
		if p == at(a.X+dx/parts*i, a.Y+dy/parts*i) {
			return true
		}
	}
	return false
}

func TestOn(t *testing.T) {
	points := pointsFrom(-3, 3)
	for _, p := range points {
		for _, a := range points {
			for _, b := range points {
				if got := On(p, a, b); got != between(p, a, b) {
					t.Error("P4.2: On", p, a, b, "is", got)
				}
			}
		}
	}
}

func TestWrongPointsAreOnNothing(t *testing.T) {
	for _, p := range wrongPoints() {
		q := at(p.X/2, p.Y/2)
		for i, l := range [][3]api.Point{{p, p, p}, {p, p, at(0, 0)}, {p, at(0, 0), p}, {at(0, 0), p, at(0, 0)}, {at(0, 0), at(0, 0), p}, {q, p, at(0, 0)}, {q, at(0, 0), p}, {p, at(0, 0), at(5, 5)}} {
			if On(l[0], l[1], l[2]) {
				t.Error("P4.2: On", l, "in case", i)
			}
		}
	}
}

func TestCmp(t *testing.T) {
	for i, x := range []struct {
		a, b api.Point
		want int
	}{
		{at(1, 9), at(2, 0), -1}, {at(2, 0), at(1, 9), 1},
		{at(1, 2), at(1, 3), -1}, {at(1, 3), at(1, 2), 1}, {at(1, 2), at(1, 2), 0},
		{at(-1, 0), at(1, 0), -1}, {at(0, -2), at(0, -1), -1},
		{at(math.MinInt, 0), at(math.MaxInt, 0), -1}, {at(0, math.MaxInt), at(0, math.MinInt), 1},
	} {
		if got := Cmp(x.a, x.b); got != x.want {
			t.Error("P4.2: Cmp: line", i, "is", got)
		}
	}
	l := []int{math.MinInt, math.MinInt + 1, -Far - 1, -7, -1, 0, 1, 7, Far, math.MaxInt}
	// Points of n times n places, gone through by x, and of one x by y, must rise.
	n := len(l) * len(l)
	nth := func(i int) api.Point { return at(l[i/len(l)], l[i%len(l)]) }
	for i := range n {
		for j := range n {
			if got := Cmp(nth(i), nth(j)); got != big.NewInt(int64(i)).Cmp(big.NewInt(int64(j))) {
				t.Error("P4.2: Cmp", nth(i), nth(j), "is", got)
			}
		}
	}
}

// corners tells those of the greatest square that is right, to the left around.
func corners() []api.Point {
	return []api.Point{at(-Far, -Far), at(Far, -Far), at(Far, Far), at(-Far, Far)}
}

// turnedRound tells the points from the last one to the first.
func turnedRound(l []api.Point) []api.Point {
	l = slices.Clone(l)
	slices.Reverse(l)
	return l
}

func TestAreaExamples(t *testing.T) {
	square := []api.Point{at(0, 0), at(2, 0), at(2, 2), at(0, 2)}
	for i, x := range []struct {
		l    []api.Point
		want int
	}{
		{nil, 0}, {[]api.Point{}, 0},
		{[]api.Point{at(3, 4)}, 0}, {[]api.Point{at(Far, -Far)}, 0},
		{[]api.Point{at(3, 4), at(7, -2)}, 0},
		{square, 8}, {turnedRound(square), -8},
		{[]api.Point{at(10, 10), at(12, 10), at(12, 12), at(10, 12)}, 8},
		{[]api.Point{at(0, 0), at(2, 0), at(1, 3)}, 6},
		{[]api.Point{at(-5, -5), at(-3, -5), at(-4, -2)}, 6},
		{[]api.Point{at(0, 0), at(1, 1), at(2, 2)}, 0},
		{[]api.Point{at(0, 0), at(2, 2), at(2, 0), at(0, 2)}, 0},                // crosses itself
		{[]api.Point{at(0, 0), at(2, 0), at(2, 0), at(2, 2), at(0, 2)}, 8},      // one twice
		{append(slices.Clone(square), square...), 16},                           // around twice
		{[]api.Point{at(0, 0), at(4, 0), at(4, 4), at(2, 1), at(0, 4)}, 2 * 10}, // with a bay
		{corners(), 1 << 61}, {turnedRound(corners()), -1 << 61},
		{slices.Repeat(corners(), 3), 3 << 61},
		{slices.Repeat(corners(), 4), math.MinInt}, // 2^63 goes round
		{slices.Repeat(corners(), 5), -3 << 61},
		{slices.Repeat(turnedRound(corners()), 5), 3 << 61},
		{slices.Repeat(corners(), 499), 3 << 61},
		{slices.Repeat(corners(), 500), math.MinInt}, // 2000 points
	} {
		if got := Area(x.l); got != x.want {
			t.Error("P4.3: Area: line", i, "is", got)
		}
	}
}

func TestAreaOfTooMany(t *testing.T) {
	l := make([]api.Point, 2000)
	copy(l, []api.Point{at(1, 1), at(3, 1), at(2, 4)})
	want := 8 // both triangles from (0, 0) on, where all others are
	if got := Area(l[:1999]); got != want {
		t.Error("P4.3: Area of 1999 points is", got)
	}
	if got := Area(l); got != want {
		t.Error("P4.3: Area of 2000 points is", got)
	}
	for _, count := range []int{2001, 2002, 4000, 1 << 17} {
		many := append(slices.Clone(l), make([]api.Point, count-2000)...)
		if got := Area(many); got != 0 {
			t.Error("P4.3: Area of", count, "points is", got)
		}
	}
}

func TestAreaOfWrongPoints(t *testing.T) {
	square := []api.Point{at(0, 0), at(2, 0), at(2, 2), at(0, 2)}
	for _, p := range wrongPoints() {
		if got := Area([]api.Point{p}); got != 0 {
			t.Error("P4.3: Area of", p, "alone is", got)
		}
		for i := range len(square) + 1 {
			l := slices.Insert(slices.Clone(square), i, p)
			if got := Area(l); got != 0 {
				t.Error("P4.3: Area of", l, "is", got)
			}
		}
	}
}

func TestArea(t *testing.T) {
	points := rightPoints(6000)
	for _, count := range []int{1, 2, 3, 4, 5, 17, 100, 1999, 2000} {
		for begin := 0; begin+count <= len(points); begin += count {
			l := points[begin : begin+count]
			sum := new(big.Int)
			for i, p := range l {
				sum.Add(sum, bigCross(at(0, 0), p, l[(i+1)%count]))
			}
			if got := Area(l); got != goRound(sum) {
				t.Error("P4.3: Area of", count, "points from", begin, "on is", got, "not", sum)
			}
		}
	}
}

func TestEqual(t *testing.T) {
	one := []api.Point{at(1, 2)}
	two := []api.Point{at(1, 2), at(3, 4)}
	three := []api.Point{at(1, 2), at(3, 4), at(5, 6)}
	wrong := []api.Point{at(math.MaxInt, math.MinInt)}
	for i, x := range []struct {
		a, b []api.Point
		want bool
	}{
		{nil, nil, true}, {nil, []api.Point{}, true}, {[]api.Point{}, []api.Point{}, true},
		{nil, one, false}, {[]api.Point{}, one, false}, {nil, []api.Point{{}}, false},
		{one, one, true}, {one, []api.Point{at(1, 2)}, true}, {one, []api.Point{at(2, 1)}, false},
		{one, []api.Point{at(1, 3)}, false}, {one, []api.Point{at(2, 2)}, false},
		{two, slices.Clone(two), true}, {two, one, false}, {two, turnedRound(two), false},
		{two, []api.Point{at(1, 2), at(3, 5)}, false}, {two, []api.Point{at(0, 2), at(3, 4)}, false},
		{three, slices.Clone(three), true}, {three, two, false}, {three, three[1:], false},
		{three, []api.Point{at(1, 2), at(3, 3), at(5, 6)}, false}, {three, []api.Point{at(1, 2), at(3, 4), at(4, 6)}, false},
		{three, []api.Point{at(3, 4), at(5, 6), at(1, 2)}, false},
		{wrong, slices.Clone(wrong), true}, {wrong, []api.Point{at(math.MaxInt, math.MaxInt)}, false},
		{make([]api.Point, 5000), make([]api.Point, 5000), true}, {make([]api.Point, 5000), make([]api.Point, 4999), false},
	} {
		if got := Equal(x.a, x.b); got != x.want {
			t.Error("P4.3: Equal: line", i, "is", got)
		}
		if got := Equal(x.b, x.a); got != x.want {
			t.Error("P4.3: Equal: line", i, "with both changed is", got)
		}
	}
}

func TestRowsStayAsTheyWere(t *testing.T) {
	l := rightPoints(50)
	a, b := slices.Clone(l), slices.Clone(l)
	Area(a)
	Equal(a, b)
	if !slices.Equal(a, l) || !slices.Equal(b, l) {
		t.Error("R5: Area, or Equal, changed its row")
	}
}

func TestBoxesAndPointsAreCompared(t *testing.T) {
	if Around(at(1, 4), at(3, 2)) != Around(at(3, 4), at(1, 2)) || Around(at(1, 4), at(3, 2)) == Around(at(1, 4), at(3, 3)) {
		t.Error("P4.2: boxes are the same just if their numbers are")
	}
}

func TestCrossInAnotherOrder(t *testing.T) {
	points := append(rightPoints(6000), wrongPoints()...)
	for i := 0; i+2 < len(points); i++ {
		o, a, b := points[i], points[i+1], points[i+2]
		want := Cross(o, a, b)
		if Cross(a, b, o) != want || Cross(b, o, a) != want {
			t.Error("P4.4: Cross", o, a, b, "moved on is another one")
		}
		if Cross(a, o, b) != -want || Cross(o, b, a) != -want || Cross(b, a, o) != -want {
			t.Error("P4.4: Cross", o, a, b, "turned round has not the other sign")
		}
	}
}

func TestMovedPointsTurnAlike(t *testing.T) {
	points := rightPoints(6000)
	for i := 0; i+3 < len(points); i++ {
		by := points[i+3]
		move := func(p api.Point) api.Point { return at(p.X+by.X, p.Y+by.Y) }
		o, a, b := points[i], points[i+1], points[i+2]
		if !Right(move(o)) || !Right(move(a)) || !Right(move(b)) {
			continue
		}
		if Turn(move(o), move(a), move(b)) != Turn(o, a, b) || Cross(move(o), move(a), move(b)) != Cross(o, a, b) {
			t.Error("P4.4:", o, a, b, "moved by", by, "turn otherwise")
		}
	}
	for _, by := range pointsFrom(-3, 3) {
		for _, b := range pointsFrom(-3, 3) {
			if Turn(by, at(by.X+2, by.Y+1), at(by.X+b.X, by.Y+b.Y)) != Turn(at(0, 0), at(2, 1), b) {
				t.Error("P4.4:", b, "moved by", by, "turns otherwise")
			}
		}
	}
}
