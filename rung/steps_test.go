package rung

import (
	"math"
	"slices"
	"testing"

	"cobweb/chain"
	"cobweb/input"
)

// same tells whether two states are the same, number by number, pixel by pixel, and chain by chain.
func same(a, b State) bool {
	if a.K != b.K || a.Room != b.Room || a.Phase != b.Phase || a.I != b.I || a.J != b.J || a.T != b.T || a.Dirty != b.Dirty {
		return false
	}
	if !slices.Equal(a.Hot, b.Hot) || !slices.Equal(a.Found, b.Found) || len(a.Chains) != len(b.Chains) {
		return false
	}
	for i, c := range a.Chains {
		if !slices.Equal(c.V, b.Chains[i].V) || !slices.Equal(c.D, b.Chains[i].D) {
			return false
		}
	}
	return true
}

// deepest tells the greatest depth of chains.
func deepest(chains []chain.Chain) int {
	all := []int{0}
	for _, c := range chains {
		all = append(all, c.D...)
	}
	return slices.Max(all)
}

// isAt tells whether r tells just that it is at s.
func isAt(r *Rung, s State) bool {
	return same(r.State(), s) && r.Phase() == s.Phase && r.Depth() == deepest(s.Chains)
}

// checkSteps goes step by step through a job, and asks for all states.
func checkSteps(t *testing.T, j job) []State {
	t.Helper()
	r, states := made(t, j), slowRun(j)
	for i, s := range states {
		if !isAt(r, s) {
			t.Fatal("P12.2: of", j, "behind", i, "steps it is at", r.State(), "and not", s)
		}
		if more := i+1 < len(states); r.Step() != more {
			t.Fatal("P12.2: of", j, "Step", i, "tells", !more)
		}
	}
	for range 3 {
		if r.Step() || r.Run(5) != 0 || !isAt(r, states[len(states)-1]) {
			t.Fatal("P12.2: of", j, "there was a step behind the last one, to", r.State())
		}
	}
	return states
}

func TestSame(t *testing.T) {
	base := State{K: 1, Room: 2, Phase: 3, I: 4, J: 5, T: 6, Dirty: true, Hot: row(0, 1, 2, 3), Found: row(4, 5, 6, 7),
		Chains: []chain.Chain{{V: row(0, 1, 2, 3), D: []int{1}}, {V: row(4, 5)}}}
	changes := []func(s *State){
		func(s *State) {},
		func(s *State) { s.K++ },
		func(s *State) { s.Room++ },
		func(s *State) { s.Phase++ },
		func(s *State) { s.I++ },
		func(s *State) { s.J++ },
		func(s *State) { s.T++ },
		func(s *State) { s.K, s.Room = s.Room, s.K },
		func(s *State) { s.I, s.J = s.J, s.I },
		func(s *State) { s.Dirty = false },
		func(s *State) { s.Hot = nil },
		func(s *State) { s.Hot = s.Hot[:1] },
		func(s *State) { s.Hot[1].Y++ },
		func(s *State) { s.Hot[0].X-- },
		func(s *State) { s.Hot[0], s.Hot[1] = s.Hot[1], s.Hot[0] },
		func(s *State) { s.Hot, s.Found = s.Found, s.Hot },
		func(s *State) { s.Found = nil },
		func(s *State) { s.Found = s.Found[1:] },
		func(s *State) { s.Found[1].Y++ },
		func(s *State) { s.Chains = nil },
		func(s *State) { s.Chains = s.Chains[:1] },
		func(s *State) { s.Chains[0], s.Chains[1] = s.Chains[1], s.Chains[0] },
		func(s *State) { s.Chains[0].V[1].X++ },
		func(s *State) { s.Chains[1].V[0].Y++ },
		func(s *State) { s.Chains[0].D[0]++ },
		func(s *State) { s.Chains[0].D = nil },
		func(s *State) { s.Chains[1].D = []int{1} },
		func(s *State) { s.Chains[1].V = nil },
		func(s *State) { *s = State{} },
	}
	for i, f := range changes {
		a := copied(base)
		f(&a)
		for j, g := range changes {
			b := copied(base)
			g(&b)
			if got := Same(a, b); got != (i == j) {
				t.Error("P12.1: Same", a, b, "is", got)
			}
		}
	}
	empty := State{Hot: row(), Found: row(), Chains: []chain.Chain{}}
	one := State{Chains: []chain.Chain{{}}}
	other := State{Chains: []chain.Chain{{V: row(), D: []int{}}}}
	if !Same(State{}, empty) || !Same(empty, State{}) || !Same(one, other) || Same(one, empty) {
		t.Error("P12.1, R3: Same of empty lists, and none")
	}
}

// TestExample goes through two edges that cross, all written by hand.
func TestExample(t *testing.T) {
	r := New(edges(0, 0, 4, 4, 0, 4, 4, 0), 0, 9)
	whole := func(numbers ...int) chain.Chain { return chain.Chain{V: row(numbers...), D: []int{1}} }
	parts := func(numbers ...int) chain.Chain { return chain.Chain{V: row(numbers...), D: []int{2, 2}} }
	laid := []chain.Chain{whole(0, 0, 4, 4), whole(0, 4, 4, 0)}
	half := []chain.Chain{parts(0, 0, 2, 2, 4, 4), whole(0, 4, 4, 0)}
	split := []chain.Chain{parts(0, 0, 2, 2, 4, 4), parts(0, 4, 2, 2, 4, 0)}
	all, found := row(0, 0, 4, 4, 0, 4, 4, 0, 2, 2), row(2, 2)
	states := []State{
		{Phase: Ends},
		{Phase: Ends, I: 1, Hot: all[:2]},
		{Phase: Pairs, J: 1, Hot: all[:4]},
	}
	route := func(i, j int, chains []chain.Chain) {
		for n := range 5 {
			states = append(states, State{Phase: Route, I: i, J: j, T: n, Hot: all, Chains: chains})
		}
	}
	route(0, 0, laid)
	route(0, 0, half)
	route(0, 1, half)
	route(1, 0, half)
	route(1, 0, split)
	route(1, 1, split)
	for _, p := range [][2]int{{0, 1}, {0, 2}, {0, 3}, {1, 2}, {1, 3}, {2, 3}} {
		states = append(states, State{Phase: Meet, I: p[0], J: p[1], Hot: all, Chains: split})
	}
	states = append(states, State{Phase: Done, Hot: all, Chains: split})
	if len(states) != 40 {
		t.Fatal("there are not 39 steps:", len(states)-1)
	}
	for i, s := range states {
		s.Room = 9
		if !isAt(r, s) {
			t.Error("P12.2: behind", i, "steps it is at", r.State(), "and not", s)
		}
		// No pixel of another number is found; the last one is, in a step that splits the link at once.
		if len(s.Found) != 0 || r.Step() != (i < 39) {
			t.Error("P12.2: step", i)
		}
	}
	// With the pixel that is found ahead of others it can be seen.
	s := State{Room: 9, Phase: Route, T: 1, Hot: row(2, 2, 0, 0, 4, 4, 0, 4, 4, 0), Found: found, Chains: laid}
	again, is := Load(edges(0, 0, 4, 4, 0, 4, 4, 0), s)
	if !is || again.Run(4) != 4 {
		t.Fatal("P12.7: Load of", s)
	}
	s.T, s.Found, s.Chains = 0, nil, half
	if !isAt(again, s) {
		t.Error("P12.2: behind the last hot pixel it is at", again.State())
	}
}

// TestNoEdges asks of rungs without edges.
func TestNoEdges(t *testing.T) {
	for _, e := range [][]input.Edge{nil, {}} {
		r := New(e, 5, 7)
		if r == nil || !isAt(r, State{K: 5, Room: 7, Phase: Done}) || r.Step() || r.Run(3) != 0 {
			t.Error("P12.1: without edges it is at", r.State())
		}
	}
}

// TestWithin asks of rungs, and rooms, that there are not.
func TestWithin(t *testing.T) {
	for _, k := range []int{math.MinInt, -1, 0, 1, 27, 28, 29, 64, 1 << 32, math.MaxInt} {
		for _, room := range []int{math.MinInt, -1, 0, 1, 2, 1023, 1024, 1025, 1 << 32, math.MaxInt} {
			for _, e := range [][]input.Edge{nil, edges(0, 0, 5, 5)} {
				want := State{K: min(max(k, 0), 28), Room: min(max(room, 1), 1024)}
				if e == nil {
					want.Phase = Done
				}
				if r := New(e, k, room); !isAt(r, want) {
					t.Error("P12.1: New of", e, k, room, "is at", r.State())
				}
			}
		}
	}
}

// TestFar asks of points that are just right, and just not, in each place of an edge, ahead of and behind others.
func TestFar(t *testing.T) {
	for n, is := range map[int]bool{
		0: true, 1<<27 - 1: true, 1 << 27: false, -1 << 27: true, -1<<27 - 1: false, 1 << 32: false, math.MaxInt: false, math.MinInt: false,
	} {
		for place := range 12 {
			numbers := make([]int, 12)
			numbers[place] = n
			e := edges(numbers...)
			for _, k := range []int{0, 5, 27, 28} {
				if r := New(e, k, 9); (r != nil) != is {
					t.Error("P12.1: New of", e, "tells one:", r != nil)
				}
				s := State{K: k, Room: 9}
				if r, got := Load(e, s); got != is || (r != nil) != is {
					t.Error("P12.7: Load of", e, "tells", got)
				}
			}
		}
	}
}

// TestByHand goes through all jobs that were made by hand.
func TestByHand(t *testing.T) {
	for i, j := range byHand() {
		states := checkSteps(t, j)
		for at, want := range map[int][]int{
			// The number of steps, the last phase, and how many pixels are hot then.
			1:  {3, Done, 2},
			2:  {1, Done, 1},
			3:  {3, Done, 1},
			5:  {2 + 1 + 9 + 1, Done, 3},
			7:  {2 + 1 + 4 + 1, Done, 2},
			11: {39, Done, 5},
			12: {3, Over, 4},
			13: {2, Over, 3},
			17: {4 + 6 + 16 + 6, Done, 4},
		} {
			last := states[len(states)-1]
			if at == i && !slices.Equal(want, []int{len(states) - 1, last.Phase, len(last.Hot)}) {
				t.Error("P12.2: job", i, "has", len(states)-1, "steps, and comes to", last)
			}
		}
	}
}

// TestMixed goes through many jobs, with room for all, and with less room than they need.
func TestMixed(t *testing.T) {
	next := mixer()
	jobs := append(mixed(next, 150, 6), tight(next, 250)...)
	ends, again, overDirty := [6]int{}, 0, 0
	for _, j := range jobs {
		states := checkSteps(t, j)
		last := states[len(states)-1]
		ends[states[len(states)-2].Phase]++
		if last.Phase != Done {
			t.Fatal("with room for all it is over:", j)
		}
		for i, s := range states[1:] {
			if s.Phase == Route && states[i].Phase == Meet {
				again++
			}
		}
		for room := len(last.Hot); room > 0; room-- {
			j.room = room
			states = checkSteps(t, j)
			over := states[len(states)-1]
			if (over.Phase == Done) != (room == len(last.Hot)) || over.Phase == Over && len(over.Hot) != room {
				t.Fatal("P12.2: of", j, "it comes to", over)
			}
			if over.Phase == Over {
				ends[states[len(states)-2].Phase]++
			}
			if over.Dirty {
				overDirty++
			}
		}
	}
	if min(ends[Ends], ends[Pairs], ends[Route], ends[Meet]) < 5 || again < 50 || overDirty < 5 {
		t.Error("phases that were the last one:", ends, "routed again:", again, "over and dirty:", overDirty)
	}
}

// TestOverAtOnce asks, phase by phase, what is there once there was no room.
func TestOverAtOnce(t *testing.T) {
	// The two links cross in a pixel of their own, and the two edges did in one of an end.
	bent := edges(7, 6, 2, 4, 2, 6, 5, 1)
	twice := append(slices.Clone(bent), edges(107, 6, 102, 4, 102, 6, 105, 1)...)
	for i, x := range []struct {
		j                job
		steps, hot, laid int
		dirty            bool
	}{
		{job{edges(0, 0, 4, 4), 0, 1}, 1, 1, 0, false},                             // the first edge's Q
		{job{edges(3, 3, 3, 3, 4, 4, 3, 3), 0, 1}, 2, 1, 0, false},                 // the second edge's P
		{job{edges(3, 3, 3, 3, 3, 3, 4, 4), 0, 1}, 2, 1, 0, false},                 // the second edge's Q
		{job{edges(0, 0, 4, 4, 4, 4, 0, 4), 0, 2}, 2, 2, 0, false},                 // the same, with room for 2
		{job{edges(0, 0, 0, 0, 1, 1, 1, 1, 4, 4, 0, 4), 0, 2}, 3, 2, 0, false},     // the third edge's P
		{job{edges(0, 0, 4, 4, 0, 4, 4, 0), 0, 4}, 3, 4, 0, false},                 // the place of two edges
		{job{edges(0, 0, 4, 4, 4, 4, 8, 8, 0, 4, 4, 0), 0, 5}, 3 + 2, 5, 0, false}, // that of the first and the third edge
		{job{bent, 1, 4}, 2 + 1 + 8 + 1, 4, 2, false},                              // that of two links
		{job{twice, 1, 8}, 4 + 6 + 32 + 1, 8, 4, false},                            // that of the first two of four
		{job{twice, 1, 9}, 4 + 6 + 32 + 6, 9, 4, true},                             // that of the last two of four
	} {
		r := made(t, x.j)
		if n := r.Run(99); n != x.steps || r.Phase() != Over {
			t.Error("P12.2: line", i, "has", n, "steps to phase", r.Phase())
		}
		s := r.State()
		if len(s.Hot) != x.hot || s.I != 0 || s.J != 0 || s.T != 0 || len(s.Found) != 0 || len(s.Chains) != x.laid || s.Dirty != x.dirty {
			t.Error("P12.2: line", i, "is over at", s)
		}
	}
	if states := checkSteps(t, job{bent, 1, 5}); len(states) != 2+1+8+1+30+6+1 || states[len(states)-1].Phase != Done {
		t.Error("P12.2: where Route comes again there are", len(states)-1, "steps")
	}
}

// TestRun spends steps in parts.
func TestRun(t *testing.T) {
	next := mixer()
	for _, j := range append(byHand(), tight(next, 10)...) {
		states := slowRun(j)
		steps := len(states) - 1
		for _, n := range []int{0, -1, math.MinInt, 1, 2, 7, steps / 2, steps - 1, steps, steps + 1, 2*steps + 1, 1 << 40, math.MaxInt} {
			r := made(t, j)
			for did := 0; ; {
				want := min(max(n, 0), steps-did)
				if got := r.Run(n); got != want {
					t.Fatal("P12.3: of", j, "behind", did, "of", steps, "Run", n, "tells", got)
				}
				did += want
				if !isAt(r, states[did]) {
					t.Fatal("P12.3: of", j, "behind", did, "it is at", r.State())
				}
				if want <= 0 {
					break
				}
			}
		}
	}
}
