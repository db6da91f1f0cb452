package rung

import (
	"slices"
	"testing"

	"cobweb/chain"
	"cobweb/grid"
	"cobweb/input"
)

// spoil writes into all of l, and of the memory behind it.
func spoil[T any](l []T, v T) {
	l = append(l, v)
	l = l[:cap(l)]
	for i := range l {
		l[i] = v
	}
}

// spoilState writes into all lists of s.
func spoilState(s State) {
	for _, c := range s.Chains {
		spoil(c.V, at(-77, 77))
		spoil(c.D, 77)
	}
	spoil(s.Hot, at(-77, 77))
	spoil(s.Found, at(-77, 77))
	spoil(s.Chains, chain.New(at(7, 7), at(-7, -7)))
}

// spare tells l with memory behind it, and all of that memory, in which v stands twice.
func spare[T any](l []T, v T) (front, whole []T) {
	whole = append(slices.Clone(l), v, v)
	return whole[:len(l)], whole
}

// roomy tells s with more behind all of its lists, and whether that, and s, stayed.
func roomy(s State) (State, func() bool) {
	was := copied(s)
	m, mark := copied(s), at(99, -99)
	var pixels [][]grid.Pixel
	var numbers [][]int
	put := func(l []grid.Pixel) []grid.Pixel {
		front, whole := spare(l, mark)
		pixels = append(pixels, whole)
		return front
	}
	m.Hot, m.Found = put(s.Hot), put(s.Found)
	for i, c := range m.Chains {
		front, whole := spare(c.D, 99)
		numbers = append(numbers, whole)
		m.Chains[i] = chain.Chain{V: put(c.V), D: front}
	}
	var chains []chain.Chain
	m.Chains, chains = spare(m.Chains, chain.Chain{V: []grid.Pixel{mark}})
	return m, func() bool {
		stays := same(m, was)
		for _, l := range pixels {
			stays = stays && l[len(l)-1] == mark && l[len(l)-2] == mark
		}
		for _, l := range numbers {
			stays = stays && l[len(l)-1] == 99 && l[len(l)-2] == 99
		}
		for _, c := range chains[len(was.Chains):] {
			stays = stays && slices.Equal(c.V, []grid.Pixel{mark}) && len(c.D) == 0
		}
		return stays
	}
}

// owned tells jobs whose runs come to all phases.
func owned() []job {
	next := mixer()
	twice := edges(7, 6, 2, 4, 2, 6, 5, 1, 107, 6, 102, 4, 102, 6, 105, 1)
	l := []job{{twice, 1, 9}, {twice, 1, 10}, {edges(0, 0, 9, 4, 0, 4, 9, 0, 1, 3, 8, 2), 0, 9}}
	return append(l, tight(next, 4)...)
}

// TestStatesOwn writes into each state that is told, and holds the next ones against those of a run that is left alone.
func TestStatesOwn(t *testing.T) {
	for _, j := range owned() {
		r, states := made(t, j), slowRun(j)
		var told []State
		for i, s := range states {
			spoilState(r.State())
			first, second := r.State(), r.State()
			spoilState(first)
			if !same(second, s) || !isAt(r, s) {
				t.Fatal("P12.1, R6: what was written into a state changed", second, "or the rung, at", r.State())
			}
			told = append(told, second)
			if more := i+1 < len(states); r.Step() != more {
				t.Fatal("P12.2: step", i, "of", j)
			}
		}
		for i, s := range told {
			if !same(s, states[i]) {
				t.Fatal("P12.1, R6: steps changed a state that was told:", s, "and not", states[i])
			}
		}
	}
}

// TestEdgesOwn writes into the edges that a rung was made of, or loaded with.
func TestEdgesOwn(t *testing.T) {
	for _, j := range owned() {
		states := slowRun(j)
		last := states[len(states)-1]
		mark := input.Edge{P: point(-5, 5), Q: point(9, 9), Of: 7}
		e, whole := spare(j.e, mark)
		was := slices.Clone(whole)
		r := New(e, j.k, j.room)
		s := states[len(j.e)/2]
		again, is := Load(e, s)
		if !is {
			t.Fatal("P12.7: Load of", s)
		}
		third := New(e, j.k, j.room)
		third.Run(1 << 30)
		if !slices.Equal(whole, was) {
			t.Fatal("R5: a rung changed the edges", j.e)
		}
		spoil(e, mark)
		r.Run(1 << 30)
		again.Run(1 << 30)
		for _, x := range []*Rung{r, again, third} {
			if !isAt(x, last) {
				t.Fatal("R6: a rung keeps the edges that were handed in:", x.State())
			}
		}
	}
}

// TestLoadOwn writes into states that were loaded, and runs rungs that were loaded with states of one memory.
func TestLoadOwn(t *testing.T) {
	for _, j := range owned() {
		states := slowRun(j)
		for i := 0; i < len(states); i += 1 + i%3 {
			s, stays := roomy(states[i])
			first, is := Load(j.e, s)
			second, isToo := Load(j.e, s)
			if !is || !isToo {
				t.Fatal("P12.7: Load of", s)
			}
			if _, bad := Load(append(slices.Clone(j.e), j.e[0]), s); bad && s.Phase > Pairs && s.Phase < Over {
				t.Fatal("P12.7: Load of", s, "and one edge more")
			}
			first.Run(1 << 30)
			if !stays() || !isAt(second, states[i]) {
				t.Fatal("R5, R6: a run changed the state that was loaded:", s)
			}
			spoilState(s)
			if !isAt(second, states[i]) {
				t.Fatal("R6: a rung keeps the state that was loaded:", second.State())
			}
			second.Run(1 << 30)
			if last := states[len(states)-1]; !isAt(first, last) || !isAt(second, last) {
				t.Fatal("P12.7: of", j, "loaded at", states[i], "it comes to", second.State())
			}
		}
	}
}

// TestSameOwn asks whether states are the same: they stay.
func TestSameOwn(t *testing.T) {
	for _, j := range owned() {
		for _, s := range slowRun(j) {
			a, staysA := roomy(s)
			b, staysB := roomy(s)
			if !Same(a, b) || !staysA() || !staysB() {
				t.Fatal("P12.1, R5: Same changed", a, b)
			}
		}
	}
}

// TestAlone runs two rungs of the same edges in turns.
func TestAlone(t *testing.T) {
	for _, j := range owned() {
		states := slowRun(j)
		first, second := made(t, j), made(t, j)
		for i := range states {
			second.Run(i % 3)
			if !isAt(first, states[i]) {
				t.Fatal("R6, R7: one rung changed the other one, to", first.State())
			}
			first.Step()
		}
	}
}
