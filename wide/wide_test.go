package wide

import (
	"math"
	"math/big"
	"testing"
)

var (
	most  = Int{Hi: math.MaxInt64, Lo: math.MaxUint64}
	least = Int{Hi: math.MinInt64}
)

// bigOf tells a as a number of the library's, against which all is held.
func bigOf(a Int) *big.Int {
	n := new(big.Int).Lsh(big.NewInt(a.Hi), 64)
	return n.Add(n, new(big.Int).SetUint64(a.Lo))
}

// intOf tells n as an Int, and whether it is one.
func intOf(n *big.Int) (Int, bool) {
	if n.Cmp(bigOf(least)) < 0 || n.Cmp(bigOf(most)) > 0 {
		return Int{}, false
	}
	low := new(big.Int).And(n, new(big.Int).SetUint64(math.MaxUint64))
	return Int{Hi: new(big.Int).Rsh(n, 64).Int64(), Lo: low.Uint64()}, true
}

// edges tells numbers about all powers of two, and of ten, at either side of 0.
func edges() []Int {
	var l []Int
	put := func(n *big.Int) {
		for d := int64(-2); d <= 2; d++ {
			m := new(big.Int).Add(n, big.NewInt(d))
			for range 2 {
				if a, is := intOf(m); is {
					l = append(l, a)
				}
				m.Neg(m)
			}
		}
	}
	for _, k := range []uint{0, 1, 2, 3, 31, 32, 33, 61, 62, 63, 64, 65, 95, 96, 125, 126, 127} {
		put(new(big.Int).Lsh(big.NewInt(1), k))
	}
	for _, k := range []int64{1, 9, 18, 19, 20, 37, 38} {
		put(new(big.Int).Exp(big.NewInt(10), big.NewInt(k), nil))
	}
	return l
}

// mixed tells numbers of all lengths, by a fixed rule that looks like chance.
func mixed(n int) []Int {
	seed := uint64(1)
	next := func() uint64 {
		seed ^= seed << 13
		seed ^= seed >> 7
		seed ^= seed << 17
		return seed
	}
	l := make([]Int, n)
	for i := range l {
		a := Int{Hi: int64(next()), Lo: next()}
		cut := next() % 128
		if cut >= 64 {
			a = Int{Hi: a.Hi >> 63, Lo: uint64(a.Hi >> (cut - 64))}
		} else {
			a = Int{Hi: a.Hi >> cut, Lo: a.Lo}
		}
		l[i] = a
	}
	return l
}

// eachPair calls f with each two of the edges, and with many of the mixed ones.
func eachPair(f func(a, b Int)) {
	l := edges()
	for _, a := range l {
		for _, b := range l {
			f(a, b)
		}
	}
	m := mixed(400)
	for _, a := range m {
		for _, b := range m {
			f(a, b)
		}
	}
}

// eachOne calls f with all edges, and with many of the mixed ones.
func eachOne(f func(a Int)) {
	for _, a := range append(edges(), mixed(2000)...) {
		f(a)
	}
}

func TestOf(t *testing.T) {
	for _, n := range []int64{0, 1, -1, 7, -7, math.MaxInt64, math.MinInt64} {
		if a := Of(n); bigOf(a).Cmp(big.NewInt(n)) != 0 {
			t.Error("P1.1: Of:", n, a)
		}
	}
	if Of(-1) != (Int{Hi: -1, Lo: math.MaxUint64}) || Of(math.MinInt64) != (Int{Hi: -1, Lo: 1 << 63}) {
		t.Error("P1.1: Of: halves", Of(-1), Of(math.MinInt64))
	}
}

func TestSumsAndProducts(t *testing.T) {
	calls := []struct {
		name  string
		ours  func(a, b Int) (Int, bool)
		right func(z, a, b *big.Int) *big.Int
	}{
		{"Add", Add, (*big.Int).Add},
		{"Sub", Sub, (*big.Int).Sub},
		{"Mul", Mul, (*big.Int).Mul},
	}
	for _, c := range calls {
		eachPair(func(a, b Int) {
			want, wantIs := intOf(c.right(new(big.Int), bigOf(a), bigOf(b)))
			if got, is := c.ours(a, b); got != want || is != wantIs {
				t.Error("P1.1:", c.name, a, b, "is", got, is, "not", want, wantIs)
			}
		})
	}
}

func TestSumsAtTheEnds(t *testing.T) {
	for i, x := range []struct {
		f        func(a, b Int) (Int, bool)
		a, b, to Int
		is       bool
	}{
		{Add, most, Of(1), Int{}, false},
		{Add, least, Of(-1), Int{}, false},
		{Add, least, least, Int{}, false},
		{Add, most, least, Of(-1), true},
		{Add, Int{Lo: math.MaxUint64}, Of(1), Int{Hi: 1}, true},
		{Sub, Int{}, least, Int{}, false},
		{Sub, Of(-1), least, most, true},
		{Sub, least, Of(1), Int{}, false},
		{Sub, most, Of(-1), Int{}, false},
		{Sub, Int{Hi: 1}, Of(1), Int{Lo: math.MaxUint64}, true},
		{Mul, least, Of(-1), Int{}, false},
		{Mul, Of(-1), least, Int{}, false},
		{Mul, least, Of(1), least, true},
		{Mul, Int{Hi: 1 << 62}, Of(-2), least, true},
		{Mul, Int{Hi: 1 << 62}, Of(2), Int{}, false},
		{Mul, Int{Hi: 1}, Int{Hi: 1}, Int{}, false},
		{Mul, least, least, Int{}, false},
		{Mul, least, Int{}, Int{}, true},
	} {
		if got, is := x.f(x.a, x.b); got != x.to || is != x.is {
			t.Error("P1.1: line", i, "is", got, is)
		}
	}
}

func TestNeg(t *testing.T) {
	eachOne(func(a Int) {
		want, wantIs := intOf(new(big.Int).Neg(bigOf(a)))
		if got, is := Neg(a); got != want || is != wantIs {
			t.Error("P1.1: Neg", a, "is", got, is, "not", want, wantIs)
		}
	})
	if got, is := Neg(least); is || got != (Int{}) {
		t.Error("P1.1: Neg of the least:", got, is)
	}
}

func TestTimes(t *testing.T) {
	l := []int64{0, 1, -1, 2, -2, 3, 10, 1<<31 - 1, 1 << 31, 1 << 32, -1 << 32, 1<<62 + 1, math.MaxInt64 - 1, math.MaxInt64, math.MinInt64 + 1, math.MinInt64}
	for _, a := range mixed(100) {
		l = append(l, int64(a.Lo))
	}
	for _, a := range l {
		for _, b := range l {
			want, _ := intOf(new(big.Int).Mul(big.NewInt(a), big.NewInt(b)))
			if got := Times(a, b); got != want {
				t.Error("P1.1: Times", a, b, "is", got, "not", want)
			}
		}
	}
}

func TestShl(t *testing.T) {
	eachOne(func(a Int) {
		for k := range 200 {
			want, wantIs := intOf(new(big.Int).Lsh(bigOf(a), uint(k)))
			if got, is := Shl(a, k); got != want || is != wantIs {
				t.Error("P1.1: Shl", a, k, "is", got, is, "not", want, wantIs)
			}
		}
		for _, k := range []int{-1, -2, -64, -128, math.MinInt} {
			if got, is := Shl(a, k); got != (Int{}) || is {
				t.Error("P1.1: Shl", a, k, "is", got, is)
			}
		}
		for _, k := range []int{500, 1 << 32, 1 << 33, math.MaxInt - 1, math.MaxInt} {
			if got, is := Shl(a, k); got != (Int{}) || is != (a == Int{}) {
				t.Error("P1.1: Shl", a, k, "is", got, is)
			}
		}
	})
}

func TestCmp(t *testing.T) {
	eachPair(func(a, b Int) {
		want := bigOf(a).Cmp(bigOf(b))
		if got := Cmp(a, b); got != want {
			t.Error("P1.2: Cmp", a, b, "is", got)
		}
		if (a == b) != (want == 0) {
			t.Error("P1.2: == of", a, b)
		}
	})
	eachOne(func(a Int) {
		if got := Sign(a); got != bigOf(a).Sign() {
			t.Error("P1.2: Sign", a, "is", got)
		}
	})
}

func TestSmall(t *testing.T) {
	eachOne(func(a Int) {
		n := bigOf(a)
		want := int64(0)
		if n.IsInt64() {
			want = n.Int64()
		}
		if got, is := Small(a); got != want || is != n.IsInt64() {
			t.Error("P1.2: Small", a, "is", got, is)
		}
	})
	for i, x := range []struct {
		a    Int
		want int64
		is   bool
	}{
		{Of(math.MaxInt64), math.MaxInt64, true},
		{Of(math.MinInt64), math.MinInt64, true},
		{Int{Lo: 1 << 63}, 0, false},
		{Int{Hi: -1, Lo: 1<<63 - 1}, 0, false},
		{Int{Hi: 1}, 0, false},
		{Int{Hi: 1, Lo: 5}, 0, false},
	} {
		if got, is := Small(x.a); got != x.want || is != x.is {
			t.Error("P1.2: Small: line", i, "is", got, is)
		}
	}
}

func TestDiv(t *testing.T) {
	eachPair(func(a, b Int) {
		q, r, is := Div(a, b)
		if Sign(b) <= 0 {
			if is || q != (Int{}) || r != (Int{}) {
				t.Error("P1.3: Div", a, b, "is", q, r, is)
			}
			return
		}
		// DivMod leaves 0 or more always, which, of a divisor above 0, is what is asked.
		bigQ, bigR := new(big.Int).DivMod(bigOf(a), bigOf(b), new(big.Int))
		wantQ, _ := intOf(bigQ)
		wantR, _ := intOf(bigR)
		if q != wantQ || r != wantR || !is {
			t.Error("P1.3: Div", a, b, "is", q, r, is, "not", wantQ, wantR)
		}
	})
}

func TestDivAtTheEnds(t *testing.T) {
	for i, x := range []struct {
		a, b, q, r Int
		is         bool
	}{
		{Of(-7), Of(2), Of(-4), Of(1), true},
		{Of(7), Of(2), Of(3), Of(1), true},
		{Of(-8), Of(2), Of(-4), Int{}, true},
		{least, Of(1), least, Int{}, true},
		{least, most, Of(-2), Int{Hi: math.MaxInt64, Lo: math.MaxUint64 - 1}, true},
		{most, most, Of(1), Int{}, true},
		{Of(-1), most, Of(-1), Int{Hi: math.MaxInt64, Lo: math.MaxUint64 - 1}, true},
		{Int{}, Of(5), Int{}, Int{}, true},
		{Of(7), Int{}, Int{}, Int{}, false},
		{Int{}, Int{}, Int{}, Int{}, false},
		{Of(7), Of(-2), Int{}, Int{}, false},
		{least, Of(-1), Int{}, Int{}, false},
		{least, least, Int{}, Int{}, false},
	} {
		if q, r, is := Div(x.a, x.b); q != x.q || r != x.r || is != x.is {
			t.Error("P1.3: line", i, "is", q, r, is)
		}
	}
}

func TestText(t *testing.T) {
	eachOne(func(a Int) {
		if got := Text(a); got != bigOf(a).String() {
			t.Error("P1.4: Text", a, "is", got)
		}
	})
	for _, x := range []struct {
		a    Int
		want string
	}{
		{Int{}, "0"},
		{Of(-1), "-1"},
		{Of(10), "10"},
		{Int{Lo: chunk - 1}, "9999999999999999999"},
		{Int{Lo: chunk}, "10000000000000000000"},
		{Int{Lo: chunk + 7}, "10000000000000000007"},
		{most, "170141183460469231731687303715884105727"},
		{least, "-170141183460469231731687303715884105728"},
	} {
		if got := Text(x.a); got != x.want {
			t.Error("P1.4: Text", x.a, "is", got)
		}
	}
}

func TestWhatFollows(t *testing.T) {
	eachPair(func(a, b Int) {
		if q, r, is := Div(a, b); is {
			p, ok := Mul(q, b)
			if !ok {
				// The one product that is no Int: q times b may be below the least number by less than b.
				if low := new(big.Int).Mul(bigOf(q), bigOf(b)); low.Add(low, bigOf(r)).Cmp(bigOf(a)) != 0 {
					t.Error("P1.5: Div", a, b, "is", q, r)
				}
			} else if s, ok := Add(p, r); !ok || s != a {
				t.Error("P1.5: Div", a, b, "is", q, r, "together", s)
			}
		}
		if s, is := Add(a, b); is {
			if back, ok := Sub(s, b); !ok || back != a {
				t.Error("P1.5: Add, then Sub", a, b, "is", back)
			}
		}
		if s, is := Sub(a, b); is {
			if back, ok := Add(s, b); !ok || back != a {
				t.Error("P1.5: Sub, then Add", a, b, "is", back)
			}
		}
	})
}
