package ladder

import (
	"slices"
	"testing"

	"cobweb/api"
	"cobweb/chain"
	"cobweb/grid"
	"cobweb/input"
	"cobweb/rung"
)

// spoil writes into all of l, and of the memory behind it.
func spoil[T any](l []T, v T) {
	l = append(l, v)
	l = l[:cap(l)]
	for i := range l {
		l[i] = v
	}
}

// spoilState writes into all lists of s.
func spoilState(s rung.State) {
	mark := grid.Pixel{X: -77, Y: 77}
	for _, c := range s.Chains {
		spoil(c.V, mark)
		spoil(c.D, 77)
	}
	spoil(s.Hot, mark)
	spoil(s.Found, mark)
	spoil(s.Chains, chain.New(mark, mark))
}

// copied tells s in memory of its own.
func copied(s rung.State) rung.State {
	s.Hot, s.Found, s.Chains = slices.Clone(s.Hot), slices.Clone(s.Found), slices.Clone(s.Chains)
	for i, c := range s.Chains {
		s.Chains[i] = chain.Chain{V: slices.Clone(c.V), D: slices.Clone(c.D)}
	}
	return s
}

// owned tells jobs that come to all phases, and to more rungs than one.
func owned() []input.Job {
	return []input.Job{
		of(0, 6, square(4), ring(2, 2, 7, 3, 3, 8)),
		of(0, 30, ring(0, 9, 6, -8, -9, 3, 9, 3, -6, -8)),
		of(1, 11, ring(7, 6, 2, 4, 2, 6, 5, 1), ring(1, 1, 8, 3, 4, 9)),
	}
}

// TestStatesOwn writes into states that are told.
func TestStatesOwn(t *testing.T) {
	for _, j := range owned() {
		l := made(t, j)
		var told []rung.State
		places := slowRun(j)
		for _, p := range places {
			spoilState(l.State())
			told = append(told, l.State())
			spoilState(l.State())
			if !isAt(l, p) {
				t.Fatal("P13.1, R6: what was written into a state changed the ladder, to", l.State())
			}
			l.Step()
		}
		for i, s := range told {
			if !rung.Same(s, places[i].s) {
				t.Fatal("P13.1, R6: steps changed a state that was told, to", s)
			}
		}
	}
}

// TestJobsOwn writes into the job that a ladder was made of, or loaded with, and into the state.
func TestJobsOwn(t *testing.T) {
	for _, j := range owned() {
		places := slowRun(j)
		last := places[len(places)-1]
		for n := 0; n < len(places); n += 3 {
			mine, s := input.Clone(j), copied(places[n].s)
			first := made(t, mine)
			second := loaded(t, mine, place{steps: n, s: s})
			third := loaded(t, mine, place{steps: n, s: s})
			third.Spend(1 << 40)
			if !input.Same(mine, j) || !rung.Same(s, places[n].s) {
				t.Fatal("R5: a ladder changed what it was given:", mine, s)
			}
			for _, r := range slices.Concat(mine.A, mine.B) {
				spoil(r, api.Point{X: 5, Y: 5})
			}
			spoil(mine.A, nil)
			spoil(mine.B, nil)
			spoilState(s)
			if !isAt(second, places[n]) {
				t.Fatal("R6: a ladder keeps the state that it was loaded with:", second.State())
			}
			first.Spend(1 << 40)
			second.Spend(1 << 40)
			if !isAt(first, last) || !isAt(second, last) || !isAt(third, last) {
				t.Fatal("R6: a ladder keeps what it was given:", first.State(), second.State())
			}
		}
	}
}

// TestSpendOwn writes into what Spend tells, and into the budgets.
func TestSpendOwn(t *testing.T) {
	for _, j := range owned() {
		places := slowRun(j)
		l := made(t, j)
		budgets := []int{2, 3, 4}
		first := l.Spend(budgets...)
		spoil(budgets, 99)
		second := l.Spend(1, 1)
		spoil(second, 99)
		if !slices.Equal(first, []int{2, 3, 4}) || !isAt(l, places[11]) {
			t.Error("P13.3, R6: Spend told", first, "and is at", l.Steps())
		}
	}
}

// TestAlone runs two ladders of one job in turns.
func TestAlone(t *testing.T) {
	for _, j := range owned() {
		places := slowRun(j)
		first, second := made(t, j), made(t, j)
		for i := range places {
			second.Spend(i%3, 1)
			if !isAt(first, places[i]) {
				t.Fatal("R6, R7: one ladder changed the other one, to", first.State())
			}
			first.Step()
		}
	}
}
