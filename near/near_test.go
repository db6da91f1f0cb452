package near

import (
	"math"
	"slices"
	"testing"

	"cobweb/grid"
)

const (
	least = math.MinInt
	most  = math.MaxInt
)

// at is the pixel (x, y).
func at(x, y int) grid.Pixel { return grid.Pixel{X: x, Y: y} }

// slow is an index without any order: entries as they were put first.
type slow []Entry[int]

// put makes v the value of q, and tells whether q had none.
func (s *slow) put(q grid.Pixel, v int) bool {
	for i, e := range *s {
		if e.Q == q {
			(*s)[i].V = v
			return false
		}
	}
	*s = append(*s, Entry[int]{Q: q, V: v})
	return true
}

// get tells q's value, and whether there is one.
func (s slow) get(q grid.Pixel) (int, bool) {
	for _, e := range s {
		if e.Q == q {
			return e.V, true
		}
	}
	return 0, false
}

// in tells all from low to high: each time the least of those that are left.
func (s slow) in(low, high grid.Pixel) (l []Entry[int]) {
	left := slices.Clone(s)
	for len(left) > 0 {
		first := 0
		for i, e := range left {
			if q := left[first].Q; e.Q.X < q.X || e.Q.X == q.X && e.Q.Y < q.Y {
				first = i
			}
		}
		e := left[first]
		left = slices.Delete(left, first, first+1)
		if low.X <= e.Q.X && e.Q.X <= high.X && low.Y <= e.Q.Y && e.Q.Y <= high.Y {
			l = append(l, e)
		}
	}
	return l
}

// all tells all.
func (s slow) all() []Entry[int] { return s.in(at(least, least), at(most, most)) }

// holds tells whether x has what s has, as All, Len and Get tell it, Get of what else stands in ask too.
func holds(x *Index[int], s slow, ask []grid.Pixel) bool {
	for _, q := range ask {
		v, is := x.Get(q)
		if want, has := s.get(q); v != want || is != has {
			return false
		}
	}
	for _, e := range s {
		if v, is := x.Get(e.Q); v != e.V || !is {
			return false
		}
	}
	return x.Len() == len(s) && slices.Equal(x.All(), s.all())
}

// made gives an index, and a slow one, with these pixels put in this order, by values 1, 2, ..
func made(pixels ...grid.Pixel) (*Index[int], slow) {
	x, s := &Index[int]{}, slow{}
	for i, q := range pixels {
		x.Put(q, i+1)
		s.put(q, i+1)
	}
	return x, s
}

// square tells all pixels whose numbers are from low to high.
func square(low, high int) (l []grid.Pixel) {
	for y := high; y >= low; y-- {
		for x := low; x <= high; x++ {
			l = append(l, at(x, y))
		}
	}
	return l
}

func TestExample(t *testing.T) {
	var x Index[string]
	if !x.Put(at(1, 2), "a") || !x.Put(at(0, 9), "b") {
		t.Error("P8.1: the example: Put")
	}
	if l := x.In(at(0, 0), at(1, 5)); !slices.Equal(l, []Entry[string]{{at(1, 2), "a"}}) {
		t.Error("P8.2: the example:", l)
	}
}

func TestZero(t *testing.T) {
	var x Index[string]
	v, is := x.Get(at(0, 0))
	if v != "" || is || x.Len() != 0 || len(x.All()) != 0 || len(x.In(at(least, least), at(most, most))) != 0 {
		t.Error("P8.1: a zero index is not empty:", v, is, x)
	}
	y := x.Copy()
	if y.Len() != 0 || !y.Put(at(0, 0), "") || y.Len() != 1 || x.Len() != 0 {
		t.Error("P8.1: the copy of a zero index:", y, x)
	}
	// A zero value is a value.
	if v, is := y.Get(at(0, 0)); v != "" || !is {
		t.Error("P8.1: a zero value:", v, is)
	}
	if v, is := y.Get(at(0, 1)); v != "" || is {
		t.Error("P8.1: a pixel that has none:", v, is)
	}
}

func TestNone(t *testing.T) {
	var x Index[[]int]
	x.Put(at(3, 4), []int{5})
	for _, q := range []grid.Pixel{at(3, 3), at(3, 5), at(2, 4), at(4, 4), at(4, 3), at(-3, -4), at(least, most), at(most, least)} {
		if v, is := x.Get(q); v != nil || is {
			t.Error("P8.1: Get of what was not put:", q, v, is)
		}
	}
	if v, is := x.Get(at(3, 4)); !slices.Equal(v, []int{5}) || !is {
		t.Error("P8.1: Get of what was put:", v, is)
	}
}

// TestPuts tries all rows of up to 5 pixels of 6, of which some stand in one row, and some in one column.
func TestPuts(t *testing.T) {
	pixels := []grid.Pixel{at(0, 0), at(0, -1), at(-1, 0), at(1, -1), at(-1, most), at(least, 0)}
	ask := append(square(-2, 2), at(most, most), at(least, least), at(-1, most-1), at(least+1, 0))
	var more func(x Index[int], s slow, left int)
	more = func(x Index[int], s slow, left int) {
		if !holds(&x, s, ask) {
			t.Fatal("P8.1: after", s, "it has", x.All())
		}
		if left == 0 {
			return
		}
		for _, q := range pixels {
			y, r := x.Copy(), slices.Clone(s)
			if is, want := y.Put(q, left), r.put(q, left); is != want {
				t.Fatal("P8.1: Put of", q, "to", x.All(), "tells", is)
			}
			more(y, r, left-1)
		}
		// What was put to copies is not here.
		if !holds(&x, s, ask) {
			t.Fatal("P8.1: after copies were put to,", s, "is", x.All())
		}
	}
	more(Index[int]{}, nil, 5)
}

// TestOrders puts a row, a column and a square of pixels rising, falling, and in turns, each twice.
func TestOrders(t *testing.T) {
	var row, column []grid.Pixel
	for i := -20; i <= 20; i++ {
		row, column = append(row, at(i, 3)), append(column, at(-3, i))
	}
	for _, l := range [][]grid.Pixel{row, column, square(-5, 5)} {
		falling, turns := slices.Clone(l), []grid.Pixel{}
		slices.Reverse(falling)
		for i := range l {
			turns = append(turns, l[i*7%len(l)])
		}
		for _, pixels := range [][]grid.Pixel{l, falling, turns} {
			x, s := &Index[int]{}, slow{}
			for i, q := range slices.Concat(pixels, pixels) {
				if is := x.Put(q, i); is != s.put(q, i) || is != (i < len(pixels)) {
					t.Fatal("P8.1: Put", i, "of", q, "tells", is)
				}
				if !holds(x, s, nil) {
					t.Fatal("P8.1: put", i, "of", q, "makes", x.All())
				}
			}
		}
	}
}

// TestFar puts pixels of all sizes, many of which share their X or their Y.
func TestFar(t *testing.T) {
	mixed := mixer()
	number := func() int {
		n := mixed()
		switch n % 5 {
		case 0:
			return n % 7
		case 1:
			return -(n / 5 % 5)
		case 2:
			return []int{least, least + 1, most - 1, most, -most, 1 << 31, -1 << 31, 1 << 32, -1 << 32, grid.Far, -grid.Far}[mixed()%11]
		case 3:
			return -n
		}
		return n
	}
	x, s := &Index[int]{}, slow{}
	for i := range 1500 {
		q := at(number(), number())
		if is, want := x.Put(q, i), s.put(q, i); is != want {
			t.Fatal("P8.1: Put of", q, "tells", is)
		}
		if i%50 == 49 && !holds(x, s, nil) {
			t.Fatal("P8.1: after", i, "it has", x.All())
		}
		ask := at(number(), number())
		v, is := x.Get(ask)
		if want, has := s.get(ask); v != want || is != has {
			t.Fatal("P8.1: Get of", ask, "tells", v, is)
		}
	}
	for range 500 {
		low, high := at(number(), number()), at(number(), number())
		if l := x.In(low, high); !slices.Equal(l, s.in(low, high)) {
			t.Fatal("P8.2: In", low, high, "tells", l)
		}
	}
}
