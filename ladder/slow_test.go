package ladder

import (
	"cobweb/api"
	"cobweb/input"
	"cobweb/rung"
)

// place is all that a ladder tells.
type place struct {
	k, steps, depth int
	done            bool
	s               rung.State
}

// slowRun tells all places that a ladder comes to: rung by rung, each on its own, up to the first one that is done.
func slowRun(j input.Job) (l []place) {
	steps := 0
	for k := j.Rung; k <= api.MaxRung; k++ {
		r := rung.New(input.Edges(j), k, j.Cap)
		for r.Phase() != rung.Over {
			l = append(l, place{k, steps, r.Depth(), r.Phase() == rung.Done, r.State()})
			if r.Phase() == rung.Done {
				return l
			}
			r.Step()
			steps++
		}
	}
	return l
}

// isAt tells whether the ladder is at that place.
func isAt(l *Ladder, p place) bool {
	return l.K() == p.k && l.Steps() == p.steps && l.Depth() == p.depth && l.Done() == p.done && rung.Same(l.State(), p.s)
}
