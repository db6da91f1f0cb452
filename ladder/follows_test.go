package ladder

import (
	"slices"
	"testing"

	"cobweb/api"
	"cobweb/input"
	"cobweb/rung"
)

// checkClimb asks that a ladder climbs just where the cap is full, up to its end, and tells that place.
func checkClimb(t *testing.T, j input.Job) place {
	t.Helper()
	l := made(t, j)
	most := Most(len(input.Edges(j)), j.Cap)
	for !l.Done() {
		was, k := l.State(), l.K()
		if !l.Step() || l.Steps() > most {
			t.Fatal("P13.6: of", j, "behind", l.Steps(), "steps it is at", l.State())
		}
		if l.K() == k {
			continue
		}
		s := l.State()
		if l.K() != k+1 || !rung.Same(s, rung.State{K: k + 1, Room: j.Cap}) {
			t.Fatal("P13.2: of", j, "from rung", k, "it comes to", s)
		}
		// The step may have made one pixel of an edge hot, ahead of the one for which there was no room.
		if full := len(was.Hot); full != j.Cap && !(was.Phase == rung.Ends && full == j.Cap-1) {
			t.Fatal("P13.6: of", j, "on rung", k, "it is over at", was)
		}
	}
	return place{k: l.K(), steps: l.Steps(), depth: l.Depth(), done: true, s: l.State()}
}

// TestClimbs runs many ladders to their ends, up to the last rung.
func TestClimbs(t *testing.T) {
	next := mixer()
	last := 0
	for _, j := range slices.Concat(byHand(), mixed(next, 300)) {
		p := checkClimb(t, j)
		last += number(p.k == api.MaxRung)
		e := input.Edges(j)
		for k := j.Rung; k <= p.k; k++ {
			r := rung.New(e, k, j.Cap)
			r.Run(1 << 40)
			if k < p.k && r.Phase() != rung.Over || k == p.k && (r.Phase() != rung.Done || !rung.Same(r.State(), p.s)) {
				t.Fatal("P13.2: of", j, "it is done on rung", p.k, "and not on", k)
			}
		}
	}
	if last < 5 {
		t.Error("just so many came to the last rung:", last)
	}
}

// TestLastRung runs the farthest points with room for one pixel.
func TestLastRung(t *testing.T) {
	far := 1 << 26
	for x := -1; x <= 1; x += 2 {
		for y := -1; y <= 1; y += 2 {
			p := checkClimb(t, of(0, 1, ring(x*far, y*far, -x*far, y*far, x*far, -y*far)))
			if p.k != 28 || len(p.s.Hot) != 1 || p.depth != 0 {
				t.Error("P13.6: it is done at", p)
			}
		}
	}
}

// TestGreat runs as many edges as there may be, with little room and with all of it.
func TestGreat(t *testing.T) {
	var r api.Ring
	for i := range 128 {
		r = append(r, api.Point{X: i * 40, Y: i % 2 * 10}, api.Point{X: i * 40, Y: i%2*10 + 5})
	}
	for _, room := range []int{1, 40, 200} {
		p := checkClimb(t, of(0, room, r))
		if p.k == 0 {
			t.Error("P13.6: it is done at", p)
		}
	}
}

// TestParts spends steps in parts of many sizes, and holds the ends against that of all at once.
func TestParts(t *testing.T) {
	upTo := below(mixer())
	for _, j := range slices.Concat(byHand(), mixed(mixer(), 40)) {
		places := slowRun(j)
		all, last := len(places)-1, places[len(places)-1]
		for _, size := range []int{1, 2, 3, 7, 50, 1000} {
			l := made(t, j)
			did := 0
			for did < all {
				part := 1 + upTo(size)
				n := l.Spend(part, part)
				did += n[0] + n[1]
				if !isAt(l, places[did]) {
					t.Fatal("P13.6: of", j, "behind", did, "steps in parts it is at", l.State())
				}
				// A pause, after which all goes on from what was told.
				l = loaded(t, j, place{steps: l.Steps(), s: l.State()})
			}
			if !isAt(l, last) || l.Step() {
				t.Fatal("P13.6: of", j, "in parts it comes to", l.State())
			}
		}
	}
}
