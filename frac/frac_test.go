package frac

import (
	"math"
	"math/big"
	"slices"
	"testing"

	"cobweb/wide"
)

var (
	most  = wide.Int{Hi: math.MaxInt64, Lo: math.MaxUint64}
	least = wide.Int{Hi: math.MinInt64}
)

// bigOf tells a as a number of the library's, against which all is held.
func bigOf(a wide.Int) *big.Int {
	n := new(big.Int).Lsh(big.NewInt(a.Hi), 64)
	return n.Add(n, new(big.Int).SetUint64(a.Lo))
}

// intOf tells n, which is an Int.
func intOf(n *big.Int) wide.Int {
	low := new(big.Int).And(n, new(big.Int).SetUint64(math.MaxUint64))
	return wide.Int{Hi: new(big.Int).Rsh(n, 64).Int64(), Lo: low.Uint64()}
}

// bigCmp compares two right fractions by their cross products, however many bits these have.
func bigCmp(a, b Frac) int {
	left := new(big.Int).Mul(bigOf(a.N), bigOf(b.D))
	return left.Cmp(new(big.Int).Mul(bigOf(b.N), bigOf(a.D)))
}

// bigSnap tells the floor of (2 N and D 2^k) over (2 D 2^k).
func bigSnap(a Frac, k int) wide.Int {
	d := new(big.Int).Lsh(bigOf(a.D), uint(k))
	n := new(big.Int).Lsh(bigOf(a.N), 1)
	n.Add(n, d)
	d.Lsh(d, 1)
	// DivMod leaves 0 or more always, which, of a divisor above 0, is the floor.
	n.DivMod(n, d, new(big.Int))
	return intOf(n)
}

// numbers tells Ints about some powers of two at either side of 0, and both ends.
func numbers() []wide.Int {
	l := []wide.Int{least, {Hi: math.MinInt64, Lo: 1}, most, {Hi: math.MaxInt64, Lo: math.MaxUint64 - 1}}
	for n := int64(-7); n <= 7; n++ {
		l = append(l, wide.Of(n))
	}
	for _, k := range []int{31, 63, 64, 99, 100, 126} {
		for d := int64(-1); d <= 1; d++ {
			a, _ := wide.Shl(wide.Of(1), k)
			a, _ = wide.Add(a, wide.Of(d))
			b, _ := wide.Neg(a)
			l = append(l, a, b)
		}
	}
	return l
}

// fractions tells all right ones of these numbers.
func fractions() []Frac {
	var l []Frac
	for _, n := range numbers() {
		for _, d := range numbers() {
			if wide.Sign(d) > 0 {
				l = append(l, Frac{n, d})
			}
		}
	}
	return l
}

// mixed tells right fractions of all lengths, by a fixed rule that looks like chance.
func mixed(count int) []Frac {
	seed := uint64(7)
	next := func() uint64 {
		seed ^= seed << 13
		seed ^= seed >> 7
		seed ^= seed << 17
		return seed
	}
	number := func() *big.Int {
		n := bigOf(wide.Int{Hi: int64(next()), Lo: next()})
		return n.Rsh(n, uint(next()%127))
	}
	l := make([]Frac, count)
	for i := range l {
		d := number()
		d.Abs(d.Add(d, big.NewInt(1)))
		if d.Sign() == 0 || d.BitLen() > 127 {
			d.SetInt64(3)
		}
		l[i] = Frac{intOf(number()), intOf(d)}
	}
	return l
}

// steps tells each Fibonacci number over the one ahead: of all fractions these part last.
func steps() []Frac {
	var l []Frac
	a, b := wide.Of(1), wide.Of(1)
	for {
		l = append(l, Frac{b, a})
		sum, is := wide.Add(a, b)
		if !is {
			return l
		}
		a, b = b, sum
	}
}

// wrong tells fractions that are not right.
func wrong() []Frac {
	var l []Frac
	for _, n := range []wide.Int{{}, wide.Of(5), wide.Of(-5), most, least} {
		for _, d := range []wide.Int{{}, wide.Of(-1), wide.Of(-2), {Hi: -1}, least} {
			l = append(l, Frac{n, d})
		}
	}
	return l
}

func TestOf(t *testing.T) {
	for _, n := range []int{0, 1, -1, 7, -7, math.MaxInt, math.MinInt} {
		if got := Of(n); got != (Frac{wide.Of(int64(n)), wide.Of(1)}) {
			t.Error("P2.1: Of", n, "is", got)
		}
	}
}

func TestRight(t *testing.T) {
	for _, a := range append(fractions(), Of(0), Of(-3)) {
		if !Right(a) {
			t.Error("P2.1: Right", a)
		}
	}
	for _, a := range wrong() {
		if Right(a) {
			t.Error("P2.1: Right", a)
		}
	}
}

func TestMake(t *testing.T) {
	aboveLeast := wide.Int{Hi: math.MinInt64, Lo: 1}
	for i, x := range []struct {
		n, d wide.Int
		want Frac
		is   bool
	}{
		{wide.Of(7), wide.Of(2), Frac{wide.Of(7), wide.Of(2)}, true},
		{wide.Of(-7), wide.Of(2), Frac{wide.Of(-7), wide.Of(2)}, true},
		{wide.Of(7), wide.Of(-2), Frac{wide.Of(-7), wide.Of(2)}, true},
		{wide.Of(-7), wide.Of(-2), Frac{wide.Of(7), wide.Of(2)}, true},
		{wide.Of(6), wide.Of(-4), Frac{wide.Of(-6), wide.Of(4)}, true},
		{wide.Of(6), wide.Of(4), Frac{wide.Of(6), wide.Of(4)}, true},
		{wide.Of(0), wide.Of(-4), Frac{wide.Of(0), wide.Of(4)}, true},
		{wide.Of(0), wide.Of(4), Frac{wide.Of(0), wide.Of(4)}, true},
		{least, most, Frac{least, most}, true},
		{most, aboveLeast, Frac{aboveLeast, most}, true},
		{aboveLeast, aboveLeast, Frac{most, most}, true},
		{wide.Of(7), wide.Of(0), Frac{}, false},
		{wide.Of(0), wide.Of(0), Frac{}, false},
		{least, wide.Of(0), Frac{}, false},
		{least, wide.Of(-1), Frac{}, false},
		{wide.Of(1), least, Frac{}, false},
		{wide.Of(0), least, Frac{}, false},
		{least, least, Frac{}, false},
	} {
		if got, is := Make(x.n, x.d); got != x.want || is != x.is {
			t.Error("P2.1: Make: line", i, "is", got, is)
		}
	}
}

func TestMakeOfAll(t *testing.T) {
	for _, n := range numbers() {
		for _, d := range numbers() {
			got, is := Make(n, d)
			wantIs := wide.Sign(d) > 0 || wide.Sign(d) < 0 && n != least && d != least
			if is != wantIs || Right(got) != wantIs || !is && got != (Frac{}) {
				t.Error("P2.1: Make", n, d, "is", got, is)
			}
			if !is {
				continue
			}
			left := new(big.Int).Mul(bigOf(got.N), bigOf(d))
			if left.Cmp(new(big.Int).Mul(bigOf(n), bigOf(got.D))) != 0 {
				t.Error("P2.1: Make", n, d, "is", got)
			}
		}
	}
}

func TestCmp(t *testing.T) {
	l := slices.Concat(fractions(), mixed(200), steps())
	for _, a := range l {
		for _, b := range l {
			if got, want := Cmp(a, b), bigCmp(a, b); got != want {
				t.Fatal("P2.2: Cmp", a, b, "is", got, "not", want)
			}
		}
	}
}

func TestCmpOfSome(t *testing.T) {
	less := func(a wide.Int, n int64) wide.Int {
		a, _ = wide.Sub(a, wide.Of(n))
		return a
	}
	for i, x := range []struct {
		a, b Frac
		want int
	}{
		{Of(3), Of(4), -1},
		{Of(4), Of(3), 1},
		{Of(-3), Of(-4), 1},
		{Frac{wide.Of(1), wide.Of(2)}, Frac{wide.Of(2), wide.Of(4)}, 0},
		{Frac{wide.Of(-1), wide.Of(2)}, Frac{wide.Of(-1), wide.Of(3)}, -1},
		{Frac{wide.Of(7), wide.Of(2)}, Of(3), 1},
		{Of(3), Frac{wide.Of(7), wide.Of(2)}, -1},
		{Frac{wide.Of(0), wide.Of(9)}, Of(0), 0},
		// These products have some 254 bits, and are but one apart.
		{Frac{less(most, 1), most}, Frac{less(most, 2), less(most, 1)}, 1},
		{Frac{less(most, 2), less(most, 1)}, Frac{less(most, 1), most}, -1},
		{Frac{most, less(most, 1)}, Frac{less(most, 1), less(most, 2)}, -1},
		{Frac{least, most}, Frac{least, less(most, 1)}, 1},
		{Frac{most, most}, Of(1), 0},
		{Frac{least, wide.Of(1)}, Frac{most, wide.Of(1)}, -1},
	} {
		if got := Cmp(x.a, x.b); got != x.want {
			t.Error("P2.2: Cmp: line", i, "is", got)
		}
	}
}

func TestNotRight(t *testing.T) {
	right := []Frac{Of(0), Of(1), Of(-1), {most, wide.Of(2)}, {least, most}}
	for _, a := range wrong() {
		for _, b := range append(right, wrong()...) {
			if Cmp(a, b) != 0 || Cmp(b, a) != 0 {
				t.Error("P2.2: Cmp", a, b, "is", Cmp(a, b), Cmp(b, a))
			}
		}
		if got := Floor(a); got != (wide.Int{}) {
			t.Error("P2.2: Floor", a, "is", got)
		}
		for _, k := range []int{-1, 0, 1, 100, 101} {
			if got, is := Snap(a, k); is || got != (wide.Int{}) {
				t.Error("P2.3: Snap", a, k, "is", got, is)
			}
		}
	}
}

func TestFloor(t *testing.T) {
	for _, a := range slices.Concat(fractions(), mixed(2000)) {
		want, _ := new(big.Int).DivMod(bigOf(a.N), bigOf(a.D), new(big.Int))
		if got := Floor(a); got != intOf(want) {
			t.Error("P2.2: Floor", a, "is", got, "not", want)
		}
	}
	for i, x := range []struct {
		a    Frac
		want wide.Int
	}{
		{Frac{wide.Of(7), wide.Of(2)}, wide.Of(3)},
		{Frac{wide.Of(-7), wide.Of(2)}, wide.Of(-4)},
		{Frac{wide.Of(-8), wide.Of(2)}, wide.Of(-4)},
		{Frac{wide.Of(-1), most}, wide.Of(-1)},
		{Frac{least, wide.Of(1)}, least},
		{Frac{least, most}, wide.Of(-2)},
		{Frac{most, wide.Of(1)}, most},
	} {
		if got := Floor(x.a); got != x.want {
			t.Error("P2.2: Floor: line", i, "is", got)
		}
	}
}

func TestSnap(t *testing.T) {
	for _, a := range slices.Concat(fractions(), mixed(500)) {
		for k := range 101 {
			if got, is := Snap(a, k); !is || got != bigSnap(a, k) {
				t.Fatal("P2.3: Snap", a, k, "is", got, is, "not", bigSnap(a, k))
			}
		}
	}
}

func TestSnapOfSome(t *testing.T) {
	half99 := wide.Int{Hi: 1 << 35}
	for i, x := range []struct {
		n, d wide.Int
		k    int
		want wide.Int
	}{
		{wide.Of(7), wide.Of(2), 1, wide.Of(2)},
		{wide.Of(1), wide.Of(2), 0, wide.Of(1)},
		{wide.Of(-1), wide.Of(2), 0, wide.Of(0)},
		{wide.Of(-3), wide.Of(2), 0, wide.Of(-1)},
		{wide.Of(3), wide.Of(2), 0, wide.Of(2)},
		{wide.Of(1), wide.Of(3), 0, wide.Of(0)},
		{wide.Of(-2), wide.Of(3), 0, wide.Of(-1)},
		{wide.Of(1), wide.Of(1), 1, wide.Of(1)},
		{wide.Of(-1), wide.Of(1), 1, wide.Of(0)},
		{wide.Of(-3), wide.Of(1), 1, wide.Of(-1)},
		{wide.Of(-11), wide.Of(10), 1, wide.Of(-1)},
		{wide.Of(9), wide.Of(10), 1, wide.Of(0)},
		{wide.Of(-6), wide.Of(1), 2, wide.Of(-1)},
		{wide.Of(6), wide.Of(1), 2, wide.Of(2)},
		{half99, wide.Of(1), 100, wide.Of(1)},
		{wide.Int{Hi: -1 << 35}, wide.Of(1), 100, wide.Of(0)},
		{wide.Int{Hi: -1<<35 - 1, Lo: math.MaxUint64}, wide.Of(1), 100, wide.Of(-1)},
		{most, wide.Of(1), 0, most},
		{least, wide.Of(1), 0, least},
		{most, wide.Of(1), 1, wide.Int{Hi: 1 << 62}},
		{most, wide.Of(1), 100, wide.Of(1 << 27)},
		{most, wide.Of(2), 0, wide.Int{Hi: 1 << 62}},
		{least, wide.Of(1), 100, wide.Of(-1 << 27)},
		{wide.Int{Hi: 1 << 62}, most, 0, wide.Of(1)},
		{wide.Int{Hi: 1<<62 - 1, Lo: math.MaxUint64}, most, 0, wide.Of(0)},
	} {
		if got, is := Snap(Frac{x.n, x.d}, x.k); !is || got != x.want {
			t.Error("P2.3: Snap: line", i, "is", got, is)
		}
	}
}

func TestSnapOfWrongShifts(t *testing.T) {
	for _, a := range []Frac{Of(0), Of(7), Of(-7), {most, wide.Of(1)}, {least, most}} {
		for _, k := range []int{-1, -2, -64, -100, math.MinInt, 101, 102, 126, 127, 128, 1 << 32, math.MaxInt} {
			if got, is := Snap(a, k); is || got != (wide.Int{}) {
				t.Error("P2.3: Snap", a, k, "is", got, is)
			}
		}
	}
}

func TestCmpOrdersAll(t *testing.T) {
	l := slices.Concat(fractions(), mixed(200), steps())
	slices.SortFunc(l, Cmp)
	for i, a := range l {
		for _, b := range l[i:] {
			if Cmp(a, b) > 0 || Cmp(a, b) != -Cmp(b, a) {
				t.Fatal("P2.4: Cmp", a, b, "is", Cmp(a, b), "turned", Cmp(b, a))
			}
		}
	}
}

func TestFloorAndOne(t *testing.T) {
	for _, a := range slices.Concat(fractions(), mixed(2000)) {
		low := Floor(a)
		if Cmp(Frac{low, wide.Of(1)}, a) > 0 {
			t.Error("P2.4: Floor", a, "is above it:", low)
		}
		// One more than the greatest Int is above all fractions.
		if up, is := wide.Add(low, wide.Of(1)); is && Cmp(Frac{up, wide.Of(1)}, a) <= 0 {
			t.Error("P2.4: Floor", a, "and one is not above it:", up)
		}
	}
}

func TestSnapNeverFalls(t *testing.T) {
	l := slices.Concat(fractions(), mixed(500))
	slices.SortFunc(l, bigCmp)
	for k := range 101 {
		last := least
		for _, a := range l {
			got, is := Snap(a, k)
			if !is || wide.Cmp(got, last) < 0 {
				t.Fatal("P2.4: Snap", a, k, "is", got, is, "behind", last)
			}
			last = got
		}
	}
}
