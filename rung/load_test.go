package rung

import (
	"math"
	"slices"
	"testing"

	"cobweb/chain"
	"cobweb/grid"
	"cobweb/input"
)

// checkLoad loads a state that is sound just if is, holds what was told against that, and tells the rung.
func checkLoad(t *testing.T, e []input.Edge, s State, is bool) *Rung {
	t.Helper()
	r, got := Load(e, s)
	if got != is || (r != nil) != is {
		t.Fatal("P12.7: Load of", e, "at", s, "tells", got)
	}
	if is && !isAt(r, s) {
		t.Fatal("P12.7: Load of", e, "at", s, "is at", r.State())
	}
	return r
}

// TestLoadAll loads each state that a rung comes to, and goes on from there.
func TestLoadAll(t *testing.T) {
	next := mixer()
	jobs := slices.Concat(byHand(), mixed(next, 15, 4), tight(next, 10))
	for _, j := range jobs {
		states := slowRun(j)
		for i, s := range states {
			if !slowSound(j.e, s) {
				t.Fatal("P12.7: of", j, "a state isn't sound:", s)
			}
			r := checkLoad(t, j.e, s, true)
			// All of them step by step would take long; the next one, and the last one, tell what is amiss.
			more := i+1 < len(states)
			if r.Step() != more || more && !isAt(r, states[i+1]) {
				t.Fatal("P12.7: of", j, "loaded at", s, "the next one is", r.State())
			}
			if n := r.Run(math.MaxInt); n != max(len(states)-2-i, 0) || !isAt(r, states[len(states)-1]) {
				t.Fatal("P12.7: of", j, "loaded at", s, "it has", n, "steps more to", r.State())
			}
		}
	}
}

// TestLoadFew loads states that were written by hand.
func TestLoadFew(t *testing.T) {
	e := edges(0, 0, 4, 4, 0, 4, 4, 0)
	hot := row(0, 0, 4, 4, 0, 4, 4, 0)
	laid := []chain.Chain{chain.New(at(0, 0), at(4, 4)), chain.New(at(0, 4), at(4, 0))}
	split := []chain.Chain{{V: row(0, 0, 2, 2, 4, 4), D: []int{2, 2}}, {V: row(0, 4, 2, 2, 4, 0), D: []int{1, 2}}}
	with := row(0, 0, 4, 4, 0, 4, 4, 0, 2, 2)
	for i, x := range []struct {
		e  []input.Edge
		s  State
		is bool
	}{
		{e, State{Room: 1}, true},
		{e, State{}, false},
		{e, State{Room: 1024}, true},
		{e, State{Room: 1025}, false},
		{e, State{Room: 1, K: 28}, true},
		{e, State{Room: 1, K: 29}, false},
		{e, State{Room: 1, K: -1}, false},
		{e, State{Room: 1, Phase: -1}, false},
		{e, State{Room: 1, Phase: 6}, false},
		{nil, State{Room: 1}, false},
		{nil, State{Room: 1, Phase: Done}, true},
		{nil, State{Room: 1, Phase: Over}, false},
		{nil, State{Room: 1, Phase: Over, Hot: row(7, 7)}, true},
		{nil, State{Room: 1, Phase: Over, Hot: row(7, 7), Dirty: true}, true}, // no chains for no edges are laid
		{nil, State{Room: 9, Phase: Done, Hot: row(7, 7)}, true},
		{nil, State{Room: 9, Phase: Done, Dirty: true}, false},
		{e, State{Room: 1, I: 1}, true}, // of Ends nothing is asked that is hot
		{e, State{Room: 1, I: 2}, false},
		{e, State{Room: 1, Hot: row(1<<27, -1<<27)}, true},
		{e, State{Room: 1, Hot: row(1<<27+1, 0)}, false},
		{e, State{Room: 1, K: 28, Hot: row(0, 1)}, false},
		{e, State{Room: 2, Hot: row(7, 7, 7, 7)}, false},
		{e, State{Room: 1, Hot: row(7, 7, 8, 8)}, false},
		{e, State{Room: 4, Phase: Pairs, J: 1, Hot: hot}, true},
		{e[:1], State{Room: 4, Phase: Pairs, J: 1, Hot: hot}, false},
		{e, State{Room: 4, Phase: Pairs, I: 1, J: 2, Hot: hot}, false},
		{e, State{Room: 4, Phase: Pairs, I: 1, J: 1, Hot: hot}, false},
		{e, State{Room: 4, Phase: Pairs, I: -1, J: 1, Hot: hot}, false},
		{e, State{Room: 4, Phase: Pairs, J: 1, Hot: hot[1:]}, false},
		{e, State{Room: 4, Phase: Pairs, J: 1, Hot: hot[:3]}, false},
		{e, State{Room: 5, Phase: Route, Hot: hot, Chains: laid}, true},
		{e, State{Room: 5, Phase: Route, Hot: with, T: 4, Chains: laid}, true},
		{e, State{Room: 5, Phase: Route, Hot: with, T: 5, Found: row(2, 2), Chains: laid}, false},
		{e, State{Room: 5, Phase: Route, Hot: with, Chains: laid[:1]}, false},
		{e, State{Room: 5, Phase: Route, Hot: with, Chains: []chain.Chain{laid[1], laid[0]}}, false},
		{e, State{Room: 5, Phase: Route, Hot: with, I: 1, Chains: laid}, false}, // a link ahead is not settled
		{e, State{Room: 5, Phase: Route, Hot: with, J: 1, Chains: laid}, false},
		{e, State{Room: 5, Phase: Route, Hot: with, I: 2, Chains: laid}, false},
		{e, State{Room: 5, Phase: Route, Hot: hot, J: 1, Chains: split}, false}, // a vertex is not hot
		{e, State{Room: 5, Phase: Route, Hot: with, J: 1, Chains: split}, true},
		{e, State{Room: 5, Phase: Meet, J: 3, Hot: with, Chains: split}, true},
		{e, State{Room: 5, Phase: Meet, J: 4, Hot: with, Chains: split}, false},
		{e, State{Room: 5, Phase: Meet, J: 1, Hot: with, Chains: laid}, false},
		{e, State{Room: 5, Phase: Meet, J: 1, Hot: with, Chains: laid, Dirty: true}, true},
		{e, State{Room: 5, Phase: Meet, J: 1, Hot: hot, Chains: laid}, true}, // no pair is ahead of this one
		{e, State{Room: 5, Phase: Done, Hot: hot, Chains: laid}, false},
		{e, State{Room: 5, Phase: Done, Hot: with, Chains: split}, true},
		{e, State{Room: 5, Phase: Over, Hot: with, Chains: split}, true},
		{e, State{Room: 6, Phase: Over, Hot: with, Chains: split}, false},
		{e, State{Room: 5, Phase: Over, Hot: with, Chains: laid, Dirty: true}, true},
		{e, State{Room: 5, Phase: Over, Hot: with}, true},
		{e, State{Room: 5, Phase: Over, Hot: with, Dirty: true}, false},
		{e, State{Room: 1, Phase: Over, Hot: row(7, 7)}, true},
		{append(e, edges(0, 0, 1<<27, 0)...), State{Room: 1}, false},
		{append(e, edges(0, 0, 1<<27-1, 0)...), State{Room: 1}, true},
	} {
		if slowSound(x.e, x.s) != x.is {
			t.Error("P12.7: line", i, "is sound:", !x.is)
		}
		checkLoad(t, x.e, x.s, x.is)
	}
}

// TestLoadFan loads two links, or three, that have an end in common, or are one, in all directions; one of them is not
// settled, or crosses another one.
func TestLoadFan(t *testing.T) {
	turned := func(e input.Edge) input.Edge { return input.Edge{P: e.Q, Q: e.P} }
	told := map[bool]int{}
	fan := edges(6, 0, 0, 6, 6, 0, 0, 0, 6, 0, 0, -6, 0, 0, 6, 0, 0, -1, 3, 3, 6, 6, 6, 0)
	for i := range len(fan) * len(fan) * len(fan) * 8 {
		n := i / 8
		e := []input.Edge{fan[n%len(fan)], fan[n/len(fan)%len(fan)], fan[n/len(fan)/len(fan)]}
		hot, chains := row(0, 0), []chain.Chain(nil)
		for m := range e {
			if i>>m&1 == 1 {
				e[m] = turned(e[m])
			}
			p, q := at(e[m].P.X, e[m].P.Y), at(e[m].Q.X, e[m].Q.Y)
			for _, v := range []grid.Pixel{p, q} {
				if !slices.Contains(hot, v) {
					hot = append(hot, v)
				}
			}
			chains = append(chains, chain.New(p, q))
		}
		for _, more := range [][]grid.Pixel{nil, row(2, 4), row(3, 0), row(4, -2)} {
			all := slices.Concat(hot, more)
			for _, s := range []State{
				{Phase: Done},
				{Phase: Meet, I: 0, J: 1},
				{Phase: Meet, I: 0, J: 2},
				{Phase: Meet, I: 1, J: 2},
				{Phase: Route, I: 1},
				{Phase: Route, I: 2},
			} {
				s.Room, s.Hot, s.Chains = 20, all, chains
				is := slowSound(e, s)
				checkLoad(t, e, s, is)
				told[is]++
			}
		}
	}
	if told[true] < 4000 || told[false] < 4000 {
		t.Error("P12.7: it was told", told)
	}
}

// TestLoadWay asks of chains from the other end, and of depths that are too great.
func TestLoadWay(t *testing.T) {
	e := edges(0, 0, 6, 0)
	s := State{Room: 9, Phase: Done, Hot: row(6, 0, 0, 0, 2, 0)}
	for _, x := range []struct {
		c  chain.Chain
		is bool
	}{
		{chain.Chain{V: row(0, 0, 2, 0, 6, 0), D: []int{2, 2}}, true},
		{chain.Chain{V: row(0, 0, 2, 0, 6, 0), D: []int{1, 1}}, true},
		{chain.Chain{V: row(0, 0, 2, 0, 6, 0), D: []int{1, 3}}, false},
		{chain.Chain{V: row(0, 0, 2, 0, 6, 0), D: []int{3, 2}}, false},
		{chain.Chain{V: row(0, 0, 2, 0, 6, 0), D: []int{0, 1}}, false},
		{chain.Chain{V: row(0, 0, 2, 0, 6, 0), D: []int{1}}, false},
		{chain.Chain{V: row(6, 0, 2, 0, 0, 0), D: []int{2, 2}}, false},
		{chain.Chain{V: row(0, 0, 6, 0), D: []int{1}}, false},
		{chain.Chain{V: row(0, 0, 2, 0), D: []int{1}}, false},
		{chain.Chain{V: row(2, 0, 6, 0), D: []int{1}}, false},
		{chain.Chain{V: row(0, 0)}, false},
		{chain.Chain{}, false},
	} {
		s.Chains = []chain.Chain{x.c}
		if slowSound(e, s) != x.is {
			t.Error("P12.7: it is sound:", !x.is, s)
		}
		checkLoad(t, e, s, x.is)
	}
}
