package rung

import (
	"math"
	"slices"

	"cobweb/chain"
	"cobweb/cross"
	"cobweb/grid"
	"cobweb/input"
)

// slowSound tells whether a state is sound: all that the chapter names, one after the other.
func slowSound(e []input.Edge, s State) bool {
	for _, x := range e {
		for _, n := range []int{x.P.X, x.P.Y, x.Q.X, x.Q.Y} {
			if n < -1<<27 || n > 1<<27-1 {
				return false
			}
		}
	}
	if s.K < 0 || s.K > 28 || s.Room < 1 || s.Room > 1024 || len(s.Hot) > s.Room {
		return false
	}
	for i, q := range s.Hot {
		if slices.Contains(s.Hot[:i], q) || !grid.In(q, s.K) {
			return false
		}
	}
	pair := func(n int) bool { return s.I >= 0 && s.J < n && s.I < s.J && s.T == 0 }
	zero := s.I == 0 && s.J == 0 && s.T == 0
	none := len(s.Found) == 0
	bare := !s.Dirty && len(s.Chains) == 0
	switch s.Phase {
	case Ends:
		return s.I >= 0 && s.I < len(e) && s.J == 0 && s.T == 0 && none && bare
	case Pairs:
		return pair(len(e)) && none && bare && slowEndsHot(e, s)
	case Route:
		return !s.Dirty && slowLaid(e, s) && slowRouteSound(s)
	case Meet:
		if !slowLaid(e, s) || !none || !pair(len(linesOf(s.Chains))) {
			return false
		}
		return s.Dirty || slowSettled(s, linesOf(s.Chains)) && slowApart(s, s.I, s.J)
	case Done:
		return zero && none && !s.Dirty && slowLaid(e, s) && slowSettled(s, linesOf(s.Chains)) && slowApart(s, math.MaxInt, 0)
	case Over:
		return zero && none && len(s.Hot) == s.Room && (bare || slowLaid(e, s))
	}
	return false
}

// slowEndsHot tells whether the pixels of all ends are hot.
func slowEndsHot(e []input.Edge, s State) bool {
	for _, x := range e {
		if !slices.Contains(s.Hot, grid.Of(x.P, s.K)) || !slices.Contains(s.Hot, grid.Of(x.Q, s.K)) {
			return false
		}
	}
	return true
}

// slowLaid tells whether the chains are laid.
func slowLaid(e []input.Edge, s State) bool {
	if len(s.Chains) != len(e) {
		return false
	}
	for i, c := range s.Chains {
		if !chain.Right(c, s.K) || c.V[0] != grid.Of(e[i].P, s.K) || c.V[len(c.V)-1] != grid.Of(e[i].Q, s.K) {
			return false
		}
		for _, v := range c.V {
			if !slices.Contains(s.Hot, v) {
				return false
			}
		}
		for _, d := range c.D {
			if d > len(c.V)-1 {
				return false
			}
		}
	}
	return true
}

// slowSettled tells whether none of these links meets a hot pixel but its two.
func slowSettled(s State, l []line) bool {
	for _, a := range l {
		for _, h := range s.Hot {
			if hits(a.p, a.q, h, s.K) {
				return false
			}
		}
	}
	return true
}

// slowApart tells whether all pairs of links that come ahead of i and j may meet as they do.
func slowApart(s State, i, j int) bool {
	l := linesOf(s.Chains)
	for m, a := range l {
		for n, b := range l {
			if m < n && (m < i || m == i && n < j) && !cross.Ends(four(a, b, s.K)) {
				return false
			}
		}
	}
	return true
}

// slowRouteSound tells whether the counters, and what is found, are such as Route's, the chains being laid.
func slowRouteSound(s State) bool {
	if s.I < 0 || s.I >= len(s.Chains) || s.J < 0 || s.J >= len(s.Chains[s.I].V)-1 || s.T < 0 || s.T >= len(s.Hot) {
		return false
	}
	c := s.Chains[s.I]
	var found []grid.Pixel
	for _, h := range s.Hot[:s.T] {
		if hits(c.V[s.J], c.V[s.J+1], h, s.K) {
			found = append(found, h)
		}
	}
	ahead := linesOf(s.Chains[:s.I])
	for j := range s.J {
		ahead = append(ahead, line{c.V[j], c.V[j+1]})
	}
	return slowSettled(s, ahead) && slices.Equal(found, s.Found)
}
