package rung

import (
	"math"
	"slices"
	"testing"

	"cobweb/chain"
	"cobweb/grid"
	"cobweb/input"
)

// changer makes states of one, each with one thing changed.
type changer struct {
	s   State
	all []State
}

// add adds the state that f makes of it.
func (x *changer) add(f func(s *State)) {
	s := copied(x.s)
	f(&s)
	x.all = append(x.all, s)
}

// changed tells states that are s but for one thing.
func changed(s State) []State {
	x := &changer{s: s}
	x.numbers()
	x.add(func(s *State) { s.Dirty = !s.Dirty })
	x.hot()
	x.found()
	x.chains()
	for i := range s.Chains {
		x.chain(i)
	}
	return x.all
}

func (x *changer) numbers() {
	links := 0
	for _, c := range x.s.Chains {
		links += len(c.D)
	}
	for _, of := range []func(s *State) *int{
		func(s *State) *int { return &s.K },
		func(s *State) *int { return &s.Room },
		func(s *State) *int { return &s.Phase },
		func(s *State) *int { return &s.I },
		func(s *State) *int { return &s.J },
		func(s *State) *int { return &s.T },
	} {
		now := *of(&x.s)
		few := []int{now - 1, now + 1, 0, 1, 2, 3, 4, 5, 6, -1, len(x.s.Hot) - 1, len(x.s.Hot), links - 1, links, math.MaxInt, math.MinInt}
		for _, n := range few {
			x.add(func(s *State) { *of(s) = n })
		}
	}
	x.add(func(s *State) { s.I, s.J = s.J, s.I })
	x.add(func(s *State) { s.Room = len(s.Hot) + 1 })
	x.add(func(s *State) { s.Room = 1025 })
	x.add(func(s *State) { s.K = 29 })
}

func (x *changer) hot() {
	for i := range x.s.Hot {
		x.add(func(s *State) { s.Hot = slices.Delete(s.Hot, i, i+1) })
		x.add(func(s *State) { s.Hot = append(s.Hot, s.Hot[i]) })
		x.add(func(s *State) { s.Hot[i], s.Hot[0] = s.Hot[0], s.Hot[i] })
		x.add(func(s *State) { s.Hot[i].X++ })
		x.add(func(s *State) { s.Hot[0] = s.Hot[i] })
	}
	for _, q := range []grid.Pixel{at(0, 0), at(1, 0), at(-1, 1), at(99, 99), at(1<<27>>x.s.K, 0), at(1<<27>>x.s.K+1, 0), at(0, math.MinInt)} {
		x.add(func(s *State) { s.Hot = append(s.Hot, q) })
		x.add(func(s *State) { s.Hot = slices.Insert(s.Hot, 0, q) })
	}
	x.add(func(s *State) { s.Hot = nil })
}

func (x *changer) found() {
	for i := range x.s.Found {
		x.add(func(s *State) { s.Found = slices.Delete(s.Found, i, i+1) })
		x.add(func(s *State) { s.Found[i], s.Found[0] = s.Found[0], s.Found[i] })
		x.add(func(s *State) { s.Found = append(s.Found, s.Found[i]) })
	}
	for _, q := range x.s.Hot {
		x.add(func(s *State) { s.Found = append(s.Found, q) })
		x.add(func(s *State) { s.Found = slices.Insert(s.Found, 0, q) })
	}
	x.add(func(s *State) { s.Found = append(s.Found, at(77, 78)) })
}

func (x *changer) chains() {
	x.add(func(s *State) { s.Chains = nil })
	x.add(func(s *State) { s.Chains = append(s.Chains, chain.Chain{}) })
	if n := len(x.s.Chains); n > 0 {
		x.add(func(s *State) { s.Chains = s.Chains[:n-1] })
		x.add(func(s *State) { s.Chains = append(s.Chains, s.Chains[0]) })
		x.add(func(s *State) { s.Chains[0], s.Chains[n-1] = s.Chains[n-1], s.Chains[0] })
	}
	for _, q := range x.s.Hot {
		x.add(func(s *State) { s.Chains = append(s.Chains, chain.Chain{V: []grid.Pixel{q}}) })
	}
}

// chain changes chain i.
func (x *changer) chain(i int) {
	change := func(f func(c *chain.Chain)) { x.add(func(s *State) { f(&s.Chains[i]) }) }
	change(func(c *chain.Chain) { slices.Reverse(c.V) })
	change(func(c *chain.Chain) { c.V, c.D = nil, nil })
	for n := range x.s.Chains[i].V {
		change(func(c *chain.Chain) { c.V[n].Y++ })
		change(func(c *chain.Chain) { c.V = slices.Delete(c.V, n, n+1) })
		for m := (i + n) % 4; m < len(x.s.Hot); m += 1 + len(x.s.Hot)/8 {
			q := x.s.Hot[m]
			change(func(c *chain.Chain) { c.V[n] = q })
			change(func(c *chain.Chain) { c.V, c.D = slices.Insert(c.V, n, q), append(c.D, 1) })
		}
	}
	for n, d := range x.s.Chains[i].D {
		change(func(c *chain.Chain) { c.V, c.D = slices.Delete(c.V, n, n+1), slices.Delete(c.D, n, n+1) })
		for _, m := range []int{0, 1, 2, -1, d + 1, d - 1, len(x.s.Chains[i].D), len(x.s.Chains[i].D) + 1, math.MaxInt} {
			change(func(c *chain.Chain) { c.D[n] = m })
		}
	}
}

// goOn runs a rung that was loaded at s to its end.
func goOn(t *testing.T, e []input.Edge, s State) {
	t.Helper()
	r := checkLoad(t, e, s, true)
	most := mostSteps(len(e), s.Room)
	if n := r.Run(most + 1); n > most || r.Phase() < Done {
		t.Fatal("P12.4: of", e, "loaded at", s, "behind", n, "steps it is at", r.State())
	}
	// Of Ends it isn't asked that the pixels of the edges ahead are hot: then they may never be.
	if s.Phase != Ends || slowEndsHot(e[:s.I], s) {
		checkEnd(t, e, r.State())
	}
}

// TestLoadChanged loads states that a run comes to, each with one thing changed, and goes on from those that are sound.
func TestLoadChanged(t *testing.T) {
	next := mixer()
	told := map[int]map[bool]int{}
	jobs := slices.Concat(byHand(), mixed(next, 6, 4), tight(next, 5))
	for i, j := range jobs {
		if i%3 > 0 {
			// With less room some are over.
			states := slowRun(j)
			j.room = len(states[len(states)-1].Hot) - (i%3 - 1)
		}
		states := slowRun(j)
		// Some of each job, and the last ones of all.
		for n := 0; n < len(states); n += 1 + max(len(states)-9-n, 0)/7 {
			for _, s := range changed(states[n]) {
				is := slowSound(j.e, s)
				checkLoad(t, j.e, s, is)
				if told[s.Phase] == nil {
					told[s.Phase] = map[bool]int{}
				}
				told[s.Phase][is]++
				if is && told[s.Phase][is]%20 == 0 {
					goOn(t, j.e, s)
				}
			}
		}
	}
	for phase := Ends; phase <= Over; phase++ {
		if told[phase][true] < 40 || told[phase][false] < 40 {
			t.Error("P12.7: of phase", phase, "it was told", told[phase])
		}
	}
}
