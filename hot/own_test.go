package hot

import (
	"slices"
	"testing"

	"cobweb/grid"
)

// many is more pixels than any row starts with room for.
func many() []grid.Pixel { return square(-3, 3) }

// more is pixels behind those, ahead of them, and above them.
func more() []grid.Pixel { return []grid.Pixel{at(9, 0), at(-9, 0), at(0, 9), at(0, -9)} }

// tells tells the ways in which a set tells lists.
func tells(s *Set) []func() []grid.Pixel {
	return []func() []grid.Pixel{
		s.All,
		func() []grid.Pixel { return s.Near(point(-9, -9), point(9, 9), 0) },
		func() []grid.Pixel { return s.Near(point(9, 2), point(-1, -9), 0) },
		func() []grid.Pixel { return s.Met(point(-9, -9), point(9, 9), 0) },
		func() []grid.Pixel { return s.Met(point(0, 9), point(0, -9), 0) },
		func() []grid.Pixel { return s.Met(point(-9, 9), point(9, -9), 4) },
	}
}

// spoil writes into all of l, and of the room behind it, and puts more behind it.
func spoil(l []grid.Pixel) {
	_ = append(l, at(-7777, 7777))
	l = l[:cap(l)]
	for i := range l {
		l[i] = at(-7777, 7777)
	}
}

// TestTold asks sets of every length, and adds more behind that: what was told stays.
func TestTold(t *testing.T) {
	for n := range len(many()) + 1 {
		s, m := made(1000, many()[:n]...)
		var told, were [][]grid.Pixel
		for _, tell := range tells(s) {
			told = append(told, tell())
			were = append(were, slices.Clone(told[len(told)-1]))
		}
		for _, q := range slices.Concat(many(), more()) {
			s.Add(q)
			m.add(q)
		}
		for i := range told {
			if !slices.Equal(told[i], were[i]) {
				t.Fatal("P9.1, P9.2, R6: what was told of", n, "in way", i, "became", told[i])
			}
		}
		if !holds(s, m, nil) {
			t.Fatal("P9.1: behind", n, "it has", s.All())
		}
	}
}

// TestWritten writes into what is told of sets of every length: what was told else, and the set, stay.
func TestWritten(t *testing.T) {
	for n := range len(many()) + 1 {
		s, m := made(1000, many()[:n]...)
		for i, tell := range tells(s) {
			spoil(tell())
			first, second := tell(), tell()
			was := slices.Clone(second)
			spoil(first)
			if !slices.Equal(second, was) || !slices.Equal(tell(), was) || !holds(s, m, more()) {
				t.Fatal("P9.1, P9.2, R6: of", n, "way", i, "what was written changed the set, or what was told:", s.All())
			}
		}
		if !slices.Equal(s.All(), many()[:n]) {
			t.Fatal("P9.1: of", n, "it has", s.All())
		}
	}
}

// TestCopies adds to a set behind its being copied, to copies, and to copies of copies.
func TestCopies(t *testing.T) {
	all := slices.Concat(many(), more())
	for n := range len(many()) + 1 {
		for _, left := range []int{1, 3, 100} {
			s, m := made(n+left, many()[:n]...)
			second, third := s.Copy(), s.Copy()
			fourth := second.Copy()
			sets, ms := []*Set{s, second, third, fourth}, []slow{m, m.copy(), m.copy(), m.copy()}
			for i := range all {
				// Each gets them in an order of its own, but the third one, which gets none.
				for _, to := range []struct {
					set int
					q   grid.Pixel
				}{{1, all[len(all)-1-i]}, {0, all[i]}, {3, all[i*7%len(all)]}} {
					is, err := sets[to.set].Add(to.q)
					if want, wantErr := ms[to.set].add(to.q); is != want || err != wantErr {
						t.Fatal("P9.1: of", n, "set", to.set, "Add", to.q, "tells", is, err)
					}
				}
			}
			for j := range sets {
				if !holds(sets[j], ms[j], all) {
					t.Fatal("P9.1: of", n, "with room for", left, "more set", j, "has", sets[j].All(), "not", ms[j].row)
				}
			}
		}
	}
}

// TestSame asks for all twice, in turns: the same is told, and nothing changes.
func TestSame(t *testing.T) {
	s, m := made(60, slices.Concat(many(), more())...)
	var first [][]grid.Pixel
	for _, tell := range tells(s) {
		first = append(first, tell())
	}
	s.Copy()
	for i, tell := range tells(s) {
		if l := tell(); !slices.Equal(l, first[i]) {
			t.Error("R7: asked again in way", i, "it tells", l)
		}
	}
	if !holds(s, m, square(-5, 5)) {
		t.Error("R7: asking made it", s.All())
	}
}
