package rung

import (
	"slices"

	"cobweb/api"
	"cobweb/chain"
	"cobweb/cross"
	"cobweb/grid"
	"cobweb/input"
	"cobweb/pixel"
)

// slow goes through the phases by loops, one in the other, and notes the state ahead of each step, and the last one.
type slow struct {
	e      []input.Edge
	s      State
	states []State
}

// copied tells s in memory of its own.
func copied(s State) State {
	s.Hot, s.Found = slices.Clone(s.Hot), slices.Clone(s.Found)
	var chains []chain.Chain
	for _, c := range s.Chains {
		chains = append(chains, chain.Chain{V: slices.Clone(c.V), D: slices.Clone(c.D)})
	}
	s.Chains = chains
	return s
}

// slowRun tells all states that a rung comes to.
func slowRun(j job) []State {
	x := &slow{e: j.e, s: State{K: min(max(j.k, 0), 28), Room: min(max(j.room, 1), 1024)}}
	phase := Over
	if x.ends() && x.pairs() {
		x.lay()
		for {
			x.route()
			again, is := x.meet()
			if !is {
				break
			}
			if !again {
				phase = Done
				break
			}
		}
	}
	x.note(phase, 0, 0, 0)
	return x.states
}

// note notes a state.
func (x *slow) note(phase, i, j, t int) {
	s := copied(x.s)
	s.Phase, s.I, s.J, s.T = phase, i, j, t
	x.states = append(x.states, s)
}

// heat makes q hot; false, if there is no room.
func (x *slow) heat(q grid.Pixel) bool {
	if slices.Contains(x.s.Hot, q) {
		return true
	}
	if len(x.s.Hot) == x.s.Room {
		return false
	}
	x.s.Hot = append(x.s.Hot, q)
	return true
}

// pixelsOf tells the pixels of an edge's ends.
func (x *slow) pixelsOf(e input.Edge) (p, q grid.Pixel) {
	return grid.Of(e.P, x.s.K), grid.Of(e.Q, x.s.K)
}

func (x *slow) ends() bool {
	for i, e := range x.e {
		x.note(Ends, i, 0, 0)
		p, q := x.pixelsOf(e)
		if !x.heat(p) || !x.heat(q) {
			return false
		}
	}
	return true
}

// placeOf tells the pixel of the one place in which segments meet, if there is one.
func (x *slow) placeOf(m cross.Meeting) (grid.Pixel, bool) {
	if m.Kind != cross.Place {
		return grid.Pixel{}, false
	}
	return grid.At(m.X, m.Y, x.s.K)
}

func (x *slow) pairs() bool {
	for i, a := range x.e {
		for j := i + 1; j < len(x.e); j++ {
			x.note(Pairs, i, j, 0)
			b := x.e[j]
			if q, is := x.placeOf(cross.Meet(a.P, a.Q, b.P, b.Q)); is && !x.heat(q) {
				return false
			}
		}
	}
	return true
}

func (x *slow) lay() {
	for _, e := range x.e {
		p, q := x.pixelsOf(e)
		c := chain.Chain{V: []grid.Pixel{p}}
		if p != q {
			c = chain.Chain{V: []grid.Pixel{p, q}, D: []int{1}}
		}
		x.s.Chains = append(x.s.Chains, c)
	}
}

// hits tells whether the link from p to q meets h, which is none of them.
func hits(p, q, h grid.Pixel, k int) bool {
	return h != p && h != q && pixel.Hits(grid.Center(p, k), grid.Center(q, k), h, k)
}

// along sorts pixels that the link from p to q meets by how far they are along it.
func along(l []grid.Pixel, p, q grid.Pixel) {
	far := func(v grid.Pixel) int { return (v.X-p.X)*(q.X-p.X) + (v.Y-p.Y)*(q.Y-p.Y) }
	slices.SortFunc(l, func(a, b grid.Pixel) int { return far(a) - far(b) })
}

func (x *slow) route() {
	for i := range x.s.Chains {
		for j := 0; j < len(x.s.Chains[i].D); {
			c := x.s.Chains[i]
			p, q := c.V[j], c.V[j+1]
			for t, h := range x.s.Hot {
				x.note(Route, i, j, t)
				if hits(p, q, h, x.s.K) {
					x.s.Found = append(x.s.Found, h)
				}
			}
			if len(x.s.Found) == 0 {
				j++
				continue
			}
			along(x.s.Found, p, q)
			deeper := slices.Repeat([]int{c.D[j] + 1}, len(x.s.Found)+1)
			x.s.Chains[i] = chain.Chain{V: slices.Insert(c.V, j+1, x.s.Found...), D: slices.Replace(c.D, j, j+1, deeper...)}
			x.s.Found = nil
		}
	}
}

// line is a link's two pixels.
type line struct{ p, q grid.Pixel }

// linesOf tells all links, chain by chain.
func linesOf(chains []chain.Chain) (l []line) {
	for _, c := range chains {
		for i := 1; i < len(c.V); i++ {
			l = append(l, line{c.V[i-1], c.V[i]})
		}
	}
	return l
}

// four tells the four centers of two links.
func four(a, b line, k int) (p, q, s, t api.Point) {
	return grid.Center(a.p, k), grid.Center(a.q, k), grid.Center(b.p, k), grid.Center(b.q, k)
}

// meet tells whether all begins again with routing, and true; false, if there is no room.
func (x *slow) meet() (again, is bool) {
	l := linesOf(x.s.Chains)
	for i, a := range l {
		for j := i + 1; j < len(l); j++ {
			x.note(Meet, i, j, 0)
			if cross.Ends(four(a, l[j], x.s.K)) {
				continue
			}
			if q, is := x.placeOf(cross.Meet(four(a, l[j], x.s.K))); is {
				if !x.heat(q) {
					return false, false
				}
				x.s.Dirty = true
			}
		}
	}
	again = x.s.Dirty
	x.s.Dirty = false
	return again, true
}
