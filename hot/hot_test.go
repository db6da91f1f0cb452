package hot

import (
	"math"
	"slices"
	"testing"

	"cobweb/api"
	"cobweb/grid"
)

const (
	least = math.MinInt
	most  = math.MaxInt
)

// at is the pixel (x, y).
func at(x, y int) grid.Pixel { return grid.Pixel{X: x, Y: y} }

// point is the point (x, y).
func point(x, y int) api.Point { return api.Point{X: x, Y: y} }

// square tells all pixels whose numbers are from low to high, none of its rows or columns rising all through.
func square(low, high int) (l []grid.Pixel) {
	for x := high; x >= low; x-- {
		for y := low; y <= high; y++ {
			l = append(l, at(x, y))
		}
	}
	// By turns from both ends, so that numbers rise with nothing.
	for i := 1; i < len(l)/2; i += 2 {
		l[i], l[len(l)-1-i] = l[len(l)-1-i], l[i]
	}
	return l
}

// slow is a set as its words say: pixels as they came.
type slow struct {
	room int
	row  []grid.Pixel
}

// add is Add.
func (m *slow) add(q grid.Pixel) (bool, api.Errno) {
	if slices.Contains(m.row, q) {
		return false, api.OK
	}
	if len(m.row) == m.room {
		return false, api.ErrHotFull
	}
	m.row = append(m.row, q)
	return true, api.OK
}

// copy gives one of its own.
func (m slow) copy() slow { return slow{room: m.room, row: slices.Clone(m.row)} }

// holds tells whether s is just as m; asked of these pixels, too.
func holds(s *Set, m slow, ask []grid.Pixel) bool {
	if s.Room() != m.room || s.Len() != len(m.row) || !slices.Equal(s.All(), m.row) {
		return false
	}
	for _, q := range slices.Concat(m.row, ask) {
		want := slices.Index(m.row, q)
		if n, is := s.Number(q); n != max(want, 0) || is != (want >= 0) {
			return false
		}
	}
	return true
}

// made gives a set, and a slow one, to which these were added.
func made(room int, pixels ...grid.Pixel) (*Set, slow) {
	s, m := New(room), slow{room: room}
	for _, q := range pixels {
		s.Add(q)
		m.add(q)
	}
	return s, m
}

func TestExample(t *testing.T) {
	s := New(api.MaxCap)
	for _, q := range []grid.Pixel{at(0, 0), at(2, 0), at(5, 5)} {
		if is, err := s.Add(q); !is || err != api.OK {
			t.Error("P9.1: the example: Add", q, is, err)
		}
	}
	if l := s.Met(point(0, 0), point(4, 0), 0); !slices.Equal(l, []grid.Pixel{at(0, 0), at(2, 0)}) {
		t.Error("P9.2: the example:", l)
	}
}

func TestRooms(t *testing.T) {
	for _, c := range []struct{ room, want int }{
		{least, 1}, {-api.MaxCap, 1}, {-2, 1}, {-1, 1}, {0, 1}, {1, 1}, {2, 2}, {3, 3}, {512, 512},
		{api.MaxCap - 1, api.MaxCap - 1}, {api.MaxCap, api.MaxCap}, {api.MaxCap + 1, api.MaxCap}, {2 * api.MaxCap, api.MaxCap},
		{1 << 32, api.MaxCap}, {1<<32 + 2, api.MaxCap}, {-1 << 32, 1}, {most, api.MaxCap},
	} {
		s := New(c.room)
		if !holds(s, slow{room: c.want}, square(-1, 1)) {
			t.Error("P9.1: New of", c.room, "has room", s.Room(), "and", s.All())
		}
		for i := range c.want {
			if is, err := s.Add(at(i%7-3, -i)); !is || err != api.OK {
				t.Fatal("P9.1: New of", c.room, "takes no pixel", i, is, err)
			}
		}
		if is, err := s.Add(at(0, 1)); is || err != api.ErrHotFull || s.Len() != c.want || s.Room() != c.want {
			t.Error("P9.1: New of", c.room, "takes more than", c.want, is, err, s.Len(), s.Room())
		}
	}
}

func TestAdd(t *testing.T) {
	s := New(2)
	for i, c := range []struct {
		q    grid.Pixel
		want bool
		err  api.Errno
		len  int
	}{
		{at(3, -4), true, api.OK, 1},
		{at(3, -4), false, api.OK, 1},
		{at(-4, 3), true, api.OK, 2},
		{at(3, 4), false, api.ErrHotFull, 2},
		{at(3, -4), false, api.OK, 2},
		{at(-4, 3), false, api.OK, 2},
		{at(3, 4), false, api.ErrHotFull, 2},
		{at(0, 0), false, api.ErrHotFull, 2},
	} {
		if is, err := s.Add(c.q); is != c.want || err != c.err || s.Len() != c.len {
			t.Error("P9.1: Add", i, c.q, "tells", is, err, "and has", s.Len())
		}
	}
	if !holds(s, slow{2, []grid.Pixel{at(3, -4), at(-4, 3)}}, []grid.Pixel{at(3, 4), at(0, 0), at(-3, 4), at(4, -3), at(3, least), at(most, 3)}) {
		t.Error("P9.1: it has", s.All())
	}
}

// TestAdds tries all rows of up to 5 pixels of 6, with all rooms from 1 to 5; each time on a copy.
func TestAdds(t *testing.T) {
	pixels := []grid.Pixel{at(0, 0), at(0, -1), at(-1, 0), at(1, -1), at(-1, most), at(least, 0)}
	ask := append(square(-2, 2), at(most, most), at(least, least), at(-1, most-1), at(least+1, 0))
	var more func(s *Set, m slow, left int)
	more = func(s *Set, m slow, left int) {
		if !holds(s, m, ask) {
			t.Fatal("P9.1: after", m, "it has", s.All())
		}
		if left == 0 {
			return
		}
		for _, q := range pixels {
			c, n := s.Copy(), m.copy()
			is, err := c.Add(q)
			if want, wantErr := n.add(q); is != want || err != wantErr {
				t.Fatal("P9.1: Add of", q, "to", s.All(), "with room for", m.room, "tells", is, err)
			}
			more(c, n, left-1)
		}
		if !holds(s, m, ask) {
			t.Fatal("P9.1: after more was added to copies of", m, "it has", s.All())
		}
	}
	for room := 1; room <= 5; room++ {
		more(New(room), slow{room: room}, 5)
	}
}

// TestFull fills a set of the greatest room with pixels of all sizes, many of which share their X or their Y.
func TestFull(t *testing.T) {
	next := mixer()
	number := func() int {
		if next()&1 == 0 {
			return next() % 9
		}
		return next()
	}
	s, m := made(api.MaxCap)
	full := 0
	for i := range 4000 {
		q := at(number(), number())
		is, err := s.Add(q)
		if want, wantErr := m.add(q); is != want || err != wantErr {
			t.Fatal("P9.1: Add", i, "of", q, "tells", is, err)
		}
		if err == api.ErrHotFull {
			full++
		}
		if i%100 == 99 && !holds(s, m, []grid.Pixel{q, at(q.Y, q.X), at(-q.X, q.Y)}) {
			t.Fatal("P9.1: after", i, "it has", s.All())
		}
	}
	if full == 0 || s.Len() != api.MaxCap {
		t.Error("P9.1: there are", s.Len(), "and", full, "were refused")
	}
}
