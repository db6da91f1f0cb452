package rung

import (
	"cobweb/api"
	"cobweb/chain"
	"cobweb/cross"
	"cobweb/grid"
	"cobweb/order"
)

// stepEnds makes the pixels of one edge's ends hot.
func (r *Rung) stepEnds() {
	p, q := r.endsOf(r.state.I)
	if !r.heat(p) || !r.heat(q) {
		return
	}
	r.state.I++
	if r.state.I == len(r.edges) {
		r.toPairs()
	}
}

// stepPairs makes the pixel hot in which two edges meet.
func (r *Rung) stepPairs() {
	a, b := r.edges[r.state.I], r.edges[r.state.J]
	if !r.heatPlace(cross.Meet(a.P, a.Q, b.P, b.Q)) {
		return
	}
	if !r.toNextPair(len(r.edges)) {
		r.lay()
	}
}

// stepRoute looks whether a link meets one hot pixel, and, once that was the last one, goes on.
func (r *Rung) stepRoute() {
	s := &r.state
	c := s.Chains[s.I]
	a := linkOf(c, s.J)
	if q := s.Hot[s.T]; a.mustSplit(q, s.K) {
		s.Found = append(s.Found, q)
	}
	s.T++
	if s.T < len(s.Hot) {
		return
	}
	s.T = 0
	if len(s.Found) == 0 {
		s.J++
		r.toLink()
		return
	}
	// The link is one of the chain's, and some were found: so it can be split.
	s.Chains[s.I], _ = chain.Split(c, s.J, order.Sort(s.Found, order.Along(a.centers(s.K))))
	s.Found = nil
}

// stepMeet makes the pixel hot in which two links meet, unless they may.
func (r *Rung) stepMeet() {
	s := &r.state
	a, b := r.links[s.I], r.links[s.J]
	if m := a.clash(b, s.K); m.Kind == cross.Place {
		if !r.heatPlace(m) {
			return
		}
		s.Dirty = true
	}
	if !r.toNextPair(len(r.links)) {
		r.leaveMeet()
	}
}

// toPairs begins with the first pair of edges.
func (r *Rung) toPairs() {
	r.begin(Pairs, 1)
	if r.state.J >= len(r.edges) {
		r.lay()
	}
}

// lay gives each edge its chain, and begins to route them.
func (r *Rung) lay() {
	chains := make([]chain.Chain, len(r.edges))
	for i := range chains {
		chains[i] = chain.New(r.endsOf(i))
	}
	r.state.Chains = chains
	r.toRoute()
}

// toRoute begins with the first link.
func (r *Rung) toRoute() {
	r.begin(Route, 0)
	r.toLink()
}

// toLink goes on to the next chain that has links, if the one that it is at has no link any more.
func (r *Rung) toLink() {
	s := &r.state
	for s.J >= len(s.Chains[s.I].D) {
		s.I, s.J = s.I+1, 0
		if s.I == len(s.Chains) {
			r.toMeet()
			return
		}
	}
}

// toMeet begins with the first pair of links.
func (r *Rung) toMeet() {
	r.begin(Meet, 1)
	r.links = linksOf(r.state.Chains)
	if r.state.J >= len(r.links) {
		r.leaveMeet()
	}
}

// leaveMeet goes on once there is no pair of links left.
func (r *Rung) leaveMeet() {
	if !r.state.Dirty {
		r.end(Done)
		return
	}
	r.state.Dirty, r.links = false, nil
	r.toRoute()
}

// begin takes up a phase, from I 0 and that J on.
func (r *Rung) begin(phase, j int) {
	s := &r.state
	s.Phase, s.I, s.J, s.T = phase, 0, j, 0
}

// end takes up a phase in which there is nothing left to do.
func (r *Rung) end(phase int) {
	// Nothing is found but in Route, which ends neither way.
	r.begin(phase, 0)
	r.links = nil
}

// toNextPair goes on with the next pair of n things, and tells whether there is one.
func (r *Rung) toNextPair(n int) bool {
	s := &r.state
	s.J++
	if s.J == n {
		s.I++
		s.J = s.I + 1
	}
	return s.J < n
}

// endsOf tells the pixels of edge i's ends.
func (r *Rung) endsOf(i int) (p, q grid.Pixel) {
	e := r.edges[i]
	return grid.Of(e.P, r.state.K), grid.Of(e.Q, r.state.K)
}

// heat makes q hot, and tells whether there was room; if not, all is over.
func (r *Rung) heat(q grid.Pixel) bool {
	is, err := r.hot.Add(q)
	if err != api.OK {
		r.end(Over)
		return false
	}
	if is {
		r.state.Hot = append(r.state.Hot, q)
	}
	return true
}

// heatPlace makes the pixel of the place hot in which two segments meet, if they meet in just one, and tells whether
// there was room; if not, all is over.
func (r *Rung) heatPlace(m cross.Meeting) bool {
	if m.Kind != cross.Place {
		return true
	}
	// It is between points that are near: so its pixel is In.
	q, _ := grid.At(m.X, m.Y, r.state.K)
	return r.heat(q)
}
