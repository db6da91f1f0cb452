package rung

import (
	"slices"

	"cobweb/api"
	"cobweb/chain"
	"cobweb/cross"
	"cobweb/grid"
	"cobweb/hot"
	"cobweb/input"
)

// Load gives a rung of these edges whose state is s; nil, and false, if s is not sound, or a point is too far.
func Load(e []input.Edge, s State) (*Rung, bool) {
	if !areNear(e) || !grid.Right(s.K) || s.Room < 1 || s.Room > api.MaxCap {
		return nil, false
	}
	r := &Rung{edges: slices.Clone(e), state: s, hot: hot.New(s.Room)}
	if !r.takeHot() || !r.isSound() {
		return nil, false
	}
	r.state = clone(s)
	if s.Phase == Meet {
		r.links = linksOf(r.state.Chains)
	}
	return r, true
}

// takeHot puts the state's hot pixels into the set, and tells whether they may be its.
func (r *Rung) takeHot() bool {
	for _, q := range r.state.Hot {
		if !grid.In(q, r.state.K) {
			return false
		}
		if is, _ := r.hot.Add(q); !is {
			return false
		}
	}
	return true
}

// isSound tells whether the state is sound, as its phase asks it.
func (r *Rung) isSound() bool {
	asks := [...]func() bool{
		Ends: r.isEnds, Pairs: r.isPairs, Route: r.isRoute, Meet: r.isMeet, Done: r.isDone, Over: r.isOver,
	}
	phase := r.state.Phase
	return 0 <= phase && phase < len(asks) && asks[phase]()
}

// isEnds tells whether the state is one of Ends.
func (r *Rung) isEnds() bool {
	s := &r.state
	return 0 <= s.I && s.I < len(r.edges) && s.J == 0 && s.T == 0 && r.isBare() && !r.hasFound()
}

// isPairs tells whether the state is one of Pairs.
func (r *Rung) isPairs() bool {
	return r.hasPairOf(len(r.edges)) && r.isBare() && !r.hasFound() && r.areEndsHot()
}

// isRoute tells whether the state is one of Route.
func (r *Rung) isRoute() bool {
	s := &r.state
	if s.Dirty || !r.areLaid() || !r.hasLink() || s.T < 0 || s.T >= len(s.Hot) {
		return false
	}
	ahead := len(linksOf(s.Chains[:s.I])) + s.J
	return r.areSettled(firsts(linksOf(s.Chains)[:ahead])) && slices.Equal(s.Found, r.toFind())
}

// isMeet tells whether the state is one of Meet.
func (r *Rung) isMeet() bool {
	if !r.areLaid() || r.hasFound() {
		return false
	}
	l := linksOf(r.state.Chains)
	return r.hasPairOf(len(l)) && (r.state.Dirty || r.areRounded(l, r.state.I, r.state.J))
}

// isDone tells whether the state is one of Done.
func (r *Rung) isDone() bool {
	if !r.hasNoCounts() || r.state.Dirty || r.hasFound() || !r.areLaid() {
		return false
	}
	l := linksOf(r.state.Chains)
	return r.areRounded(l, len(l), 0)
}

// isOver tells whether the state is one of Over.
func (r *Rung) isOver() bool {
	s := &r.state
	return r.hasNoCounts() && !r.hasFound() && len(s.Hot) == s.Room && (r.isBare() || r.areLaid())
}

// isBare tells whether there are no chains, and so nothing that could be dirty.
func (r *Rung) isBare() bool { return !r.state.Dirty && len(r.state.Chains) == 0 }

// hasFound tells whether any pixels were found.
func (r *Rung) hasFound() bool { return len(r.state.Found) > 0 }

// hasNoCounts tells whether all counters are 0.
func (r *Rung) hasNoCounts() bool { return r.state.I == 0 && r.state.J == 0 && r.state.T == 0 }

// hasPairOf tells whether the counters tell two of n things, the lesser one first.
func (r *Rung) hasPairOf(n int) bool {
	s := &r.state
	return 0 <= s.I && s.I < s.J && s.J < n && s.T == 0
}

// hasLink tells whether chain I has a link J.
func (r *Rung) hasLink() bool {
	s := &r.state
	return 0 <= s.I && s.I < len(s.Chains) && 0 <= s.J && s.J < len(s.Chains[s.I].D)
}

// isHot tells whether q is hot.
func (r *Rung) isHot(q grid.Pixel) bool {
	_, is := r.hot.Number(q)
	return is
}

// areEndsHot tells whether the pixels of all edges' ends are hot.
func (r *Rung) areEndsHot() bool {
	for i := range r.edges {
		p, q := r.endsOf(i)
		if !r.isHot(p) || !r.isHot(q) {
			return false
		}
	}
	return true
}

// areLaid tells whether each edge has a chain that may be its.
func (r *Rung) areLaid() bool {
	s := &r.state
	if len(s.Chains) != len(r.edges) {
		return false
	}
	for i, c := range s.Chains {
		p, q := r.endsOf(i)
		if !chain.Right(c, s.K) || c.V[0] != p || c.V[len(c.V)-1] != q || chain.Depth(c) > len(c.D) {
			return false
		}
		if slices.ContainsFunc(c.V, func(v grid.Pixel) bool { return !r.isHot(v) }) {
			return false
		}
	}
	return true
}

// toFind tells, in Route, what must have been found by now.
func (r *Rung) toFind() []grid.Pixel {
	s := &r.state
	a := linkOf(s.Chains[s.I], s.J)
	var l []grid.Pixel
	for _, q := range s.Hot[:s.T] {
		if a.mustSplit(q, s.K) {
			l = append(l, q)
		}
	}
	return l
}

// areRounded tells whether all links are settled, and all pairs of them that come ahead of i and j may meet as they do.
func (r *Rung) areRounded(l []link, i, j int) bool {
	first := firsts(l)
	return r.areSettled(first) && areApart(first, i, j, r.state.K)
}

// areSettled tells whether none of these links meets a hot pixel but its two.
func (r *Rung) areSettled(l []numbered) bool {
	for _, a := range l {
		p, q := a.centers(r.state.K)
		for _, h := range r.hot.Met(p, q, r.state.K) {
			if h != a.p && h != a.q {
				return false
			}
		}
	}
	return true
}

// areApart tells whether, of all pairs of these links that come ahead of that of the numbers i and j, both have ends
// alone in common, or all.
func areApart(l []numbered, i, j, k int) bool {
	for m, a := range l {
		for _, b := range l[m+1:] {
			if a.number > i || a.number == i && b.number >= j {
				return true
			}
			if a.clash(b.link, k).Kind != cross.None {
				return false
			}
		}
	}
	return true
}

// numbered is a link, and its number.
type numbered struct {
	link
	number int
}

// firsts tells the links, by rising numbers, but those that are, one way or the other, as one ahead of them. A link
// that stands there often meets others as the first one does, and comes behind it in pairs: so to look at these will do.
func firsts(l []link) []numbered {
	var left []numbered
	times := map[link]int{}
	for i, a := range l {
		if times[a.turned()]++; times[a.turned()] == 1 {
			left = append(left, numbered{link: a, number: i})
		}
	}
	return left
}
