package rung

import (
	"slices"
	"testing"

	"cobweb/api"
	"cobweb/chain"
	"cobweb/cross"
	"cobweb/grid"
	"cobweb/input"
)

// mostSteps tells how many steps there may be at most, of so many edges.
func mostSteps(n, room int) int { return 8 * (room + 2) * (n*room + 1) * (n*room + 1) }

// checkEnd asks all of a rung's end, that is Done or Over, but how far chains are from their edges.
func checkEnd(t *testing.T, e []input.Edge, s State) {
	t.Helper()
	if s.Phase == Over {
		if len(s.Hot) != s.Room || s.I != 0 || s.J != 0 || s.T != 0 || len(s.Found) != 0 {
			t.Fatal("P12.2: of", e, "it is over at", s)
		}
		return
	}
	if s.Phase != Done || s.I != 0 || s.J != 0 || s.T != 0 || len(s.Found) != 0 || s.Dirty {
		t.Fatal("P12.2: of", e, "it is done at", s)
	}
	if deepest(s.Chains) > s.Room+1 {
		t.Fatal("P12.5: of", e, "it is too deep:", s)
	}
	if !slowLaid(e, s) {
		t.Fatal("P12.5: of", e, "not all chains are right, and go from end to end through hot pixels:", s)
	}
	l := linesOf(s.Chains)
	if !slowSettled(s, l) {
		t.Fatal("P12.5: of", e, "a link meets a hot pixel:", s)
	}
	for i, a := range l {
		for _, b := range l[i+1:] {
			if !cross.Ends(four(a, b, s.K)) {
				t.Fatal("P12.5: of", e, "two links meet:", a, b, s)
			}
		}
	}
}

// checkNear asks of each chain that it is no farther from its edge than it may be.
func checkNear(t *testing.T, e []input.Edge, s State) {
	t.Helper()
	for i, c := range s.Chains {
		far := max(deepest(s.Chains), 1) << s.K
		if far <= 1<<28 && !chain.Close(c, e[i].P, e[i].Q, s.K, far) {
			t.Fatal("P12.5: too far from", e[i], "is", c, "on rung", s.K)
		}
	}
}

// checkRun runs a job to its end, and asks all of it.
func checkRun(t *testing.T, j job) State {
	t.Helper()
	r := made(t, j)
	most := mostSteps(len(j.e), min(max(j.room, 1), api.MaxCap))
	if n := r.Run(most + 1); n > most {
		t.Fatal("P12.4: of", j, "behind", n, "steps it is at", r.State())
	}
	s := r.State()
	checkEnd(t, j.e, s)
	if s.Phase == Done {
		checkNear(t, j.e, s)
	}
	return s
}

// TestEndsWell runs many jobs, with room enough and with less.
func TestEndsWell(t *testing.T) {
	next := mixer()
	deep := 0
	for _, j := range slices.Concat(byHand(), mixed(next, 150, 12), tight(next, 150)) {
		s := checkRun(t, j)
		deep = max(deep, deepest(s.Chains))
		for _, room := range []int{1, 2, 3, len(s.Hot) - 1, len(s.Hot), 9} {
			checkRun(t, job{j.e, j.k, room})
		}
	}
	if deep < 4 {
		t.Error("the deepest chain was", deep)
	}
}

// TestAllPairs runs all pairs of edges among 16 points, on two rungs, and holds them against going slowly.
func TestAllPairs(t *testing.T) {
	for i := range 16 * 16 {
		for j := range 16 * 16 {
			e := edges(i/64, i/16%4, i/4%4, i%4, j/64, j/16%4, j/4%4, j%4)
			for k := range 2 {
				r, room := New(e, k, 16), 16
				if r.Run(200) == 200 {
					t.Fatal("P12.4: too many steps:", e, k)
				}
				s := r.State()
				if s.Phase != Done || s.Room != room {
					t.Fatal("P12.2: of", e, k, "it comes to", s)
				}
				checkEnd(t, e, s)
				checkNear(t, e, s)
				if (i+j)%16 == 0 {
					states := slowRun(job{e, k, room})
					if !same(states[len(states)-1], s) {
						t.Fatal("P12.2: of", e, k, "it comes to", s)
					}
				}
			}
		}
	}
}

// TestFarEdges runs edges that are as long as may be, on all rungs; on the last one there is one pixel alone.
func TestFarEdges(t *testing.T) {
	next := mixer()
	number := func() int {
		switch next() & 3 {
		case 0:
			return 1<<27 - 1 - next()&3
		case 1:
			return -1<<27 + next()&3
		}
		return next() % (1 << 27)
	}
	for i := range 400 {
		k := i % (api.MaxRung + 1)
		var e []input.Edge
		for range 2 + i%5 {
			e = append(e, edges(number(), number(), number(), number())...)
		}
		if i%3 == 0 {
			e = append(e, edges(-1<<27, -1<<27, 1<<27-1, 1<<27-1, -1<<27, 1<<27-1, 1<<27-1, -1<<27)...)
		}
		s := checkRun(t, job{e, k, 200})
		if s.Phase != Done {
			t.Error("P12.2: with room for all it is over:", e, k)
		}
		states := slowRun(job{e, k, 200})
		if !same(states[len(states)-1], s) {
			t.Error("P12.2: of", e, k, "it comes to", s)
		}
		s = checkRun(t, job{e, api.MaxRung, 1})
		if s.Phase != Done || !slices.Equal(s.Hot, row(0, 0)) || deepest(s.Chains) != 0 {
			t.Error("P12.4: of", e, "on rung 28 it comes to", s)
		}
	}
}

// TestAnew rounds what was rounded: the links as edges, each once.
func TestAnew(t *testing.T) {
	next := mixer()
	links := 0
	for _, j := range slices.Concat(byHand(), mixed(next, 150, 9), tight(next, 60)) {
		first := checkRun(t, j)
		if first.Phase != Done {
			continue
		}
		var e []input.Edge
		had := map[line]int{}
		for _, a := range linesOf(first.Chains) {
			if had[line{a.q, a.p}] > 0 || had[a] > 0 {
				continue
			}
			had[a]++
			e = append(e, input.Edge{P: grid.Center(a.p, j.k), Q: grid.Center(a.q, j.k)})
		}
		s := checkRun(t, job{e, j.k, j.room})
		if s.Phase != Done || len(s.Chains) != len(e) {
			t.Fatal("P12.6: of", e, "it comes to", s)
		}
		for i, c := range s.Chains {
			links++
			if !slices.Equal(c.V, []grid.Pixel{grid.Of(e[i].P, j.k), grid.Of(e[i].Q, j.k)}) || !slices.Equal(c.D, []int{1}) {
				t.Fatal("P12.6: of", e, "edge", i, "is", c)
			}
		}
	}
	if links < 1500 {
		t.Error("just so many links:", links)
	}
}
