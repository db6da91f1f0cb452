package grid

import (
	"math"
	"math/big"
	"testing"

	"cobweb/api"
	"cobweb/frac"
	"cobweb/wide"
)

// noRungs tells numbers that are no rungs, each with the rung nearest to it.
func noRungs() [][2]int {
	return [][2]int{{-1, 0}, {-2, 0}, {-28, 0}, {-64, 0}, {math.MinInt, 0}, {29, 28}, {30, 28}, {63, 28}, {64, 28}, {100, 28}, {101, 28}, {1 << 32, 28}, {math.MaxInt, 28}}
}

// eachRung calls f with all rungs, and with numbers that are none; near is the rung that is meant.
func eachRung(f func(k, near int)) {
	for k := range api.MaxRung + 1 {
		f(k, k)
	}
	for _, x := range noRungs() {
		f(x[0], x[1])
	}
}

// mixed tells numbers of all lengths, by a fixed rule that looks like chance.
func mixed(count int) []int {
	seed := uint64(3)
	next := func() uint64 {
		seed ^= seed << 13
		seed ^= seed >> 7
		seed ^= seed << 17
		return seed
	}
	l := make([]int, count)
	for i := range l {
		l[i] = int(int64(next()) >> (next() % 64))
	}
	return l
}

// numbers tells those about halves, and whole sides, of pixels of all rungs at either side of 0, both ends, and mixed ones.
func numbers() []int {
	l := mixed(500)
	for n := -20; n <= 20; n++ {
		l = append(l, n)
	}
	for k := range 62 {
		for d := -1; d <= 1; d++ {
			l = append(l, 1<<k+d, -1<<k+d, 3<<k/2+d, -3<<k/2+d)
		}
	}
	for d := range 4 {
		l = append(l, math.MaxInt-d, math.MinInt+d)
	}
	return l
}

// holds tells whether places with x (n over d) are in pixels with that X of a rung, by the words of the document:
// from 2^k (X less a half) on, and below 2^k (X and a half).
func holds(column, k int, n, d *big.Int) bool {
	twice := new(big.Int).Lsh(n, 1)
	edge := func(odd int64) *big.Int {
		e := new(big.Int).Lsh(big.NewInt(int64(column)), 1)
		e.Add(e, big.NewInt(odd))
		e.Lsh(e, uint(k))
		return e.Mul(e, d)
	}
	return edge(-1).Cmp(twice) <= 0 && twice.Cmp(edge(1)) < 0
}

// inByHand tells whether that number times 2^k is from -Far to Far, however many bits it has.
func inByHand(n *big.Int, k int) bool {
	product := new(big.Int).Lsh(n, uint(k))
	return product.CmpAbs(big.NewInt(1<<27)) <= 0
}

// over tells n over d.
func over(n, d int64) frac.Frac { return frac.Frac{N: wide.Of(n), D: wide.Of(d)} }

func TestFar(t *testing.T) {
	if Far != 134217728 {
		t.Error("P3.2: Far is", Far)
	}
}

func TestRight(t *testing.T) {
	for k := 0; k <= 28; k++ {
		if !Right(k) {
			t.Error("P3.1: Right", k)
		}
	}
	for _, x := range noRungs() {
		if Right(x[0]) {
			t.Error("P3.1: Right", x[0])
		}
	}
}

func TestSnapExamples(t *testing.T) {
	for i, x := range []struct{ v, k, want int }{
		{0, 0, 0}, {5, 0, 5}, {-5, 0, -5}, {math.MaxInt, 0, math.MaxInt}, {math.MinInt, 0, math.MinInt},
		{1, 1, 1}, {-1, 1, 0}, {-2, 1, -1}, {-3, 1, -1}, {3, 1, 2},
		{1, 2, 0}, {2, 2, 1}, {-2, 2, 0}, {-3, 2, -1}, {6, 2, 2}, {-6, 2, -1}, {-7, 2, -2},
		{1<<27 - 1, 28, 0}, {1 << 27, 28, 1}, {-1 << 27, 28, 0}, {-1<<27 - 1, 28, -1},
		{math.MaxInt, 1, 1 << 62}, {math.MinInt, 1, -1 << 62}, {math.MaxInt, 28, 1 << 35}, {math.MinInt, 28, -1 << 35},
		{7, -1, 7}, {7, math.MinInt, 7}, {1 << 27, 29, 1}, {1<<27 - 1, 29, 0}, {1 << 28, math.MaxInt, 1},
	} {
		if got := Snap(x.v, x.k); got != x.want {
			t.Error("P3.1: Snap: line", i, "is", got)
		}
	}
}

func TestSnap(t *testing.T) {
	one := big.NewInt(1)
	eachRung(func(k, near int) {
		for _, v := range numbers() {
			if got := Snap(v, k); !holds(got, near, big.NewInt(int64(v)), one) {
				t.Error("P3.1: Snap", v, k, "is", got)
			}
		}
	})
}

func TestOf(t *testing.T) {
	for i, x := range []struct {
		p    api.Point
		k    int
		want Pixel
	}{
		{api.Point{X: 6, Y: -6}, 2, Pixel{2, -1}},
		{api.Point{X: -6, Y: 6}, 2, Pixel{-1, 2}},
		{api.Point{X: 6, Y: -6}, 0, Pixel{6, -6}},
		{api.Point{X: 6, Y: -6}, -3, Pixel{6, -6}},
		{api.Point{X: 1 << 28, Y: -1 << 27}, 28, Pixel{1, 0}},
		{api.Point{X: 1 << 28, Y: -1 << 27}, 99, Pixel{1, 0}},
		{api.Point{X: math.MaxInt, Y: math.MinInt}, 2, Pixel{1 << 61, -1 << 61}},
	} {
		if got := Of(x.p, x.k); got != x.want {
			t.Error("P3.1: Of: line", i, "is", got)
		}
	}
	l := numbers()
	eachRung(func(k, _ int) {
		for i, x := range l {
			y := l[len(l)-1-i]
			if got := Of(api.Point{X: x, Y: y}, k); got != (Pixel{Snap(x, k), Snap(y, k)}) {
				t.Error("P3.1: Of", x, y, k, "is", got)
			}
		}
	})
}

func TestAtExamples(t *testing.T) {
	most := frac.Frac{N: wide.Int{Hi: math.MaxInt64, Lo: math.MaxUint64}, D: wide.Of(1)}
	least := frac.Frac{N: wide.Int{Hi: math.MinInt64}, D: wide.Of(1)}
	// Its lower 64 bits alone are 0, which is not too far.
	past := frac.Frac{N: wide.Int{Hi: 1}, D: wide.Of(1)}
	for i, x := range []struct {
		x, y frac.Frac
		k    int
		want Pixel
		is   bool
	}{
		{over(7, 2), over(-7, 2), 1, Pixel{2, -2}, true},
		{over(1, 2), over(-1, 2), 0, Pixel{1, 0}, true},
		{over(499, 1000), over(-501, 1000), 0, Pixel{0, -1}, true},
		{over(7, 2), over(-7, 2), -5, Pixel{4, -3}, true},
		{over(1<<27, 1), over(-1<<27, 1), 0, Pixel{1 << 27, -1 << 27}, true},
		{over(1<<28+1, 2), over(0, 1), 0, Pixel{}, false},
		{over(1<<28, 2), over(-1<<28-1, 2), 0, Pixel{1 << 27, -1 << 27}, true},
		{over(0, 1), over(-1<<28-2, 2), 0, Pixel{}, false},
		{over(0, 1), over(1<<27-1, 1), 28, Pixel{}, true},
		{over(0, 1), over(1<<27, 1), 28, Pixel{}, false},
		{over(-1<<27, 1), over(0, 1), 28, Pixel{}, true},
		{over(-1<<27-1, 1), over(0, 1), 28, Pixel{}, false},
		{over(1<<27, 1), over(0, 1), 29, Pixel{}, false},
		{over(1<<27-1, 1), over(-1<<27, 1), 101, Pixel{}, true},
		{over(1, 0), over(1, 1), 3, Pixel{}, false},
		{over(1, 1), over(1, 0), 3, Pixel{}, false},
		{over(9, -1), over(9, 1), 0, Pixel{}, false},
		{over(9, 1), over(9, -1), 0, Pixel{}, false},
		{frac.Frac{}, frac.Frac{}, 0, Pixel{}, false},
		{most, over(5, 1), 0, Pixel{}, false},
		{over(5, 1), least, 28, Pixel{}, false},
		{past, over(5, 1), 0, Pixel{}, false},
		{over(5, 1), past, 0, Pixel{}, false},
	} {
		if got, is := At(x.x, x.y, x.k); got != x.want || is != x.is {
			t.Error("P3.1: At: line", i, "is", got, is)
		}
	}
}

// checkAt holds At of (n over d, 3) against the words of the document.
func checkAt(t *testing.T, n, d, k, near int) {
	bigN, bigD := big.NewInt(int64(n)), big.NewInt(int64(d))
	// The floor of (2 n and d 2^k) over (2 d 2^k): DivMod leaves 0 or more always.
	column := new(big.Int).Lsh(bigD, uint(near))
	column.Add(column, new(big.Int).Lsh(bigN, 1))
	column.DivMod(column, new(big.Int).Lsh(bigD, uint(near)+1), new(big.Int))
	a, b := over(int64(n), int64(d)), frac.Of(3)
	for turned := range 2 {
		got, is := At(a, b, k)
		if is != inByHand(column, near) || !is && got != (Pixel{}) {
			t.Error("P3.1: At", a, b, k, "is", got, is)
		}
		if is && turned == 0 && (!holds(got.X, near, bigN, bigD) || got.Y != Snap(3, k)) {
			t.Error("P3.1: At", a, b, k, "is", got)
		}
		if is && turned == 1 && (!holds(got.Y, near, bigN, bigD) || got.X != Snap(3, k)) {
			t.Error("P3.1: At", a, b, k, "is", got)
		}
		a, b = b, a
	}
}

func TestAt(t *testing.T) {
	l := numbers()
	eachRung(func(k, near int) {
		for _, n := range l {
			for _, d := range []int{1, 2, 3, 7, 1 << 20, 1<<40 + 1, math.MaxInt} {
				checkAt(t, n, d, k, near)
			}
		}
	})
}

func TestAtOfWholeNumbers(t *testing.T) {
	l := numbers()
	eachRung(func(k, _ int) {
		for i, x := range l {
			y := l[(i*7+1)%len(l)]
			want := Of(api.Point{X: x, Y: y}, k)
			wantIs := In(want, k)
			if !wantIs {
				want = Pixel{}
			}
			if got, is := At(frac.Of(x), frac.Of(y), k); got != want || is != wantIs {
				t.Error("P3.1: At", x, y, k, "is", got, is, "not", want, wantIs)
			}
		}
	})
}

func TestInExamples(t *testing.T) {
	for i, x := range []struct {
		q    Pixel
		k    int
		want bool
	}{
		{Pixel{1 << 27, -1 << 27}, 0, true},
		{Pixel{1<<27 + 1, 0}, 0, false}, {Pixel{0, 1<<27 + 1}, 0, false},
		{Pixel{-1<<27 - 1, 0}, 0, false}, {Pixel{0, -1<<27 - 1}, 0, false},
		{Pixel{1 << 26, -1 << 26}, 1, true}, {Pixel{1<<26 + 1, 0}, 1, false}, {Pixel{0, -1<<26 - 1}, 1, false},
		{Pixel{1, -1}, 27, true}, {Pixel{2, 0}, 27, false}, {Pixel{0, -2}, 27, false},
		{Pixel{0, 0}, 28, true}, {Pixel{1, 0}, 28, false}, {Pixel{-1, 0}, 28, false}, {Pixel{0, -1}, 28, false},
		{Pixel{1 << 27, 0}, -1, true}, {Pixel{1<<27 + 1, 0}, math.MinInt, false},
		{Pixel{0, 0}, 29, true}, {Pixel{1, 0}, 29, false}, {Pixel{0, 1}, math.MaxInt, false},
		// Times 2^k these go round to 0.
		{Pixel{1 << 62, 0}, 2, false}, {Pixel{0, math.MinInt}, 1, false}, {Pixel{1 << 36, 1 << 36}, 28, false},
	} {
		if got := In(x.q, x.k); got != x.want {
			t.Error("P3.2: In: line", i, "is", got)
		}
	}
}

// checkPixel holds In, Center and Sides against the words of the document.
func checkPixel(t *testing.T, q Pixel, k, near int) {
	want := inByHand(big.NewInt(int64(q.X)), near) && inByHand(big.NewInt(int64(q.Y)), near)
	if got := In(q, k); got != want {
		t.Error("P3.2: In", q, k, "is", got)
	}
	var center, low, high api.Point
	if want {
		size := 1 << near
		center = api.Point{X: q.X * size, Y: q.Y * size}
		low = api.Point{X: (2*q.X - 1) * size, Y: (2*q.Y - 1) * size}
		high = api.Point{X: (2*q.X + 1) * size, Y: (2*q.Y + 1) * size}
	}
	if got := Center(q, k); got != center {
		t.Error("P3.2: Center", q, k, "is", got, "not", center)
	}
	if gotLow, gotHigh := Sides(q, k); gotLow != low || gotHigh != high {
		t.Error("P3.2: Sides", q, k, "are", gotLow, gotHigh, "not", low, high)
	}
}

func TestPixels(t *testing.T) {
	l := numbers()
	eachRung(func(k, near int) {
		for i, x := range l {
			for _, y := range []int{0, -1, 1, x, -x, l[(i*5+2)%len(l)]} {
				checkPixel(t, Pixel{x, y}, k, near)
				checkPixel(t, Pixel{y, x}, k, near)
			}
		}
	})
}

func TestCentersAndSides(t *testing.T) {
	for i, x := range []struct {
		q                 Pixel
		k                 int
		center, low, high api.Point
	}{
		{Pixel{2, -1}, 2, api.Point{X: 8, Y: -4}, api.Point{X: 12, Y: -12}, api.Point{X: 20, Y: -4}},
		{Pixel{0, 0}, 0, api.Point{}, api.Point{X: -1, Y: -1}, api.Point{X: 1, Y: 1}},
		{Pixel{3, -3}, -7, api.Point{X: 3, Y: -3}, api.Point{X: 5, Y: -7}, api.Point{X: 7, Y: -5}},
		{Pixel{1 << 27, -1 << 27}, 0, api.Point{X: 1 << 27, Y: -1 << 27}, api.Point{X: 1<<28 - 1, Y: -1<<28 - 1}, api.Point{X: 1<<28 + 1, Y: -1<<28 + 1}},
		{Pixel{0, 0}, 28, api.Point{}, api.Point{X: -1 << 28, Y: -1 << 28}, api.Point{X: 1 << 28, Y: 1 << 28}},
		{Pixel{0, 0}, 400, api.Point{}, api.Point{X: -1 << 28, Y: -1 << 28}, api.Point{X: 1 << 28, Y: 1 << 28}},
		{Pixel{1, -1}, 27, api.Point{X: 1 << 27, Y: -1 << 27}, api.Point{X: 1 << 27, Y: -3 << 27}, api.Point{X: 3 << 27, Y: -1 << 27}},
		{Pixel{5, 1<<27 + 1}, 0, api.Point{}, api.Point{}, api.Point{}},
		{Pixel{1, 0}, 28, api.Point{}, api.Point{}, api.Point{}},
		{Pixel{1, 0}, 29, api.Point{}, api.Point{}, api.Point{}},
	} {
		if got := Center(x.q, x.k); got != x.center {
			t.Error("P3.2: Center: line", i, "is", got)
		}
		if low, high := Sides(x.q, x.k); low != x.low || high != x.high {
			t.Error("P3.2: Sides: line", i, "are", low, high)
		}
	}
}

func TestCmp(t *testing.T) {
	for i, x := range []struct {
		a, b Pixel
		want int
	}{
		{Pixel{1, 9}, Pixel{2, 0}, -1}, {Pixel{2, 0}, Pixel{1, 9}, 1},
		{Pixel{1, 2}, Pixel{1, 3}, -1}, {Pixel{1, 3}, Pixel{1, 2}, 1}, {Pixel{1, 2}, Pixel{1, 2}, 0},
		{Pixel{-1, 0}, Pixel{1, 0}, -1}, {Pixel{0, -2}, Pixel{0, -1}, -1},
		{Pixel{math.MinInt, 0}, Pixel{math.MaxInt, 0}, -1}, {Pixel{math.MaxInt, 0}, Pixel{math.MinInt, 0}, 1},
		{Pixel{0, math.MinInt}, Pixel{0, math.MaxInt}, -1}, {Pixel{0, math.MaxInt}, Pixel{0, math.MinInt}, 1},
	} {
		if got := Cmp(x.a, x.b); got != x.want {
			t.Error("P3.3: line", i, "is", got)
		}
	}
	l := []int{math.MinInt, math.MinInt + 1, -7, -1, 0, 1, 7, math.MaxInt}
	// Pixels of n times n places, gone through by X, and of one X by Y, must rise.
	n := len(l) * len(l)
	at := func(i int) Pixel { return Pixel{l[i/len(l)], l[i%len(l)]} }
	for i := range n {
		for j := range n {
			if got := Cmp(at(i), at(j)); got != big.NewInt(int64(i)).Cmp(big.NewInt(int64(j))) || (got == 0) != (at(i) == at(j)) {
				t.Error("P3.3: Cmp", at(i), at(j), "is", got)
			}
		}
	}
}

func TestCenterIsInItsPixel(t *testing.T) {
	for k := range api.MaxRung + 1 {
		for _, x := range numbers() {
			for _, q := range []Pixel{{x, 0}, {0, x}, {x, -x}} {
				if !In(q, k) {
					continue
				}
				c := Center(q, k)
				if Of(c, k) != q {
					t.Error("P3.4: the center of", q, k, "is in", Of(c, k))
				}
				if got, is := At(frac.Of(c.X), frac.Of(c.Y), k); got != q || !is {
					t.Error("P3.4: At of the center of", q, k, "is", got, is)
				}
			}
		}
	}
}

func TestSnapNeverFalls(t *testing.T) {
	eachRung(func(k, _ int) {
		for v := -3000; v < 3000; v++ {
			if up := Snap(v+1, k) - Snap(v, k); up != 0 && up != 1 {
				t.Error("P3.4: Snap", v, k, "and the next one part by", up)
			}
		}
		for _, v := range numbers() {
			if v != math.MaxInt && Snap(v+1, k) < Snap(v, k) {
				t.Error("P3.4: Snap falls behind", v, k)
			}
		}
	})
}

func TestNoPlaceIsFarFromItsCenter(t *testing.T) {
	apart := func(a, b int) int { return max(a-b, b-a) }
	for k := range api.MaxRung + 1 {
		for _, v := range numbers() {
			if v < -1<<27 || v > 1<<27 {
				continue
			}
			p := api.Point{X: v, Y: -v}
			q := Of(p, k)
			if !In(q, k) {
				continue
			}
			c := Center(q, k)
			if 2*apart(p.X, c.X) > 1<<k || 2*apart(p.Y, c.Y) > 1<<k {
				t.Error("P3.4:", p, "is too far from the center of", q, k)
			}
			low, high := Sides(q, k)
			if 2*p.X < low.X || 2*p.X >= high.X || 2*p.Y < low.Y || 2*p.Y >= high.Y {
				t.Error("P3.4:", p, "is not between the sides of", q, k)
			}
		}
	}
}
