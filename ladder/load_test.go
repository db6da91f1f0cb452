package ladder

import (
	"math"
	"slices"
	"testing"

	"cobweb/api"
	"cobweb/grid"
	"cobweb/input"
	"cobweb/rung"
)

// loaded tells the ladder that goes on from a place.
func loaded(t *testing.T, j input.Job, p place) *Ladder {
	t.Helper()
	l, err := Load(j, p.steps, p.s)
	if l == nil || err != api.OK {
		t.Fatal("P13.5: Load of", j, "at", p, "answers", err)
	}
	return l
}

// refuse asks that Load answers that error.
func refuse(t *testing.T, why string, j input.Job, steps int, s rung.State, err api.Errno) {
	t.Helper()
	if l, e := Load(j, steps, s); l != nil || e != err {
		t.Fatal("P13.5: Load of", j, "with", steps, s, why, "answers", e, "and not", err)
	}
}

// TestLoad loads each place of many ladders, and goes on from there.
func TestLoad(t *testing.T) {
	for i, j := range slices.Concat(byHand(), mixed(mixer(), 40)) {
		places := slowRun(j)
		last := places[len(places)-1]
		for n := 0; n < len(places); n += 1 + i%3 {
			l := loaded(t, j, places[n])
			if !isAt(l, places[n]) {
				t.Fatal("P13.5: of", j, places[n], "is loaded as", l.State(), l.Steps())
			}
			if n+1 < len(places) && (!l.Step() || !isAt(l, places[n+1])) {
				t.Fatal("P13.5: of", j, "loaded at", places[n], "it comes to", l.State(), l.Steps())
			}
			if n%9 == 0 && (len(l.Spend(1<<40)) != 1 || !isAt(l, last) || l.Step()) {
				t.Fatal("P13.5: of", j, "loaded at", places[n], "it comes to", l.State(), l.Steps(), "in the end")
			}
		}
	}
}

// TestLoadSteps loads places with other numbers of steps.
func TestLoadSteps(t *testing.T) {
	for _, j := range slices.Concat(byHand(), mixed(mixer(), 20)) {
		most := 29 * 8 * (j.Cap + 2)
		links := len(input.Edges(j))*j.Cap + 1
		most *= links * links
		places := slowRun(j)
		for n := 0; n < len(places); n += 7 {
			p := places[n]
			for _, steps := range []int{0, 1, p.steps + 1, 1 << 12, most - 1, most} {
				p.steps = min(steps, most)
				l := loaded(t, j, p)
				if !isAt(l, p) {
					t.Fatal("P13.5: of", j, p, "is loaded as", l.State(), l.Steps())
				}
				if l.Step() == p.done || l.Steps() != p.steps+number(!p.done) {
					t.Fatal("P13.2: of", j, p, "a step is", l.Steps())
				}
			}
			for _, steps := range []int{-1, -2, math.MinInt, most + 1, most + 2, math.MaxInt} {
				refuse(t, "for its steps", j, steps, p.s, api.ErrSaveState)
			}
		}
	}
}

// number tells 1 of true, and 0 of false.
func number(is bool) int {
	if is {
		return 1
	}
	return 0
}

// TestLoadRung loads places with jobs whose rung, or cap, is another one.
func TestLoadRung(t *testing.T) {
	for _, j := range slices.Concat(byHand(), mixed(mixer(), 20)) {
		places := slowRun(j)
		for n := 0; n < len(places); n += 5 {
			p := places[n]
			for k := range api.MaxRung + 1 {
				other := j
				other.Rung = k
				if k <= p.k {
					if l := loaded(t, other, p); !isAt(l, p) {
						t.Fatal("P13.5: of", other, p, "is loaded as", l.State())
					}
				} else {
					refuse(t, "for its rung", other, p.steps, p.s, api.ErrSaveState)
				}
			}
			for _, room := range []int{1, j.Cap - 1, j.Cap + 1, api.MaxCap} {
				other := j
				other.Cap = room
				if room > 0 && room <= api.MaxCap && room != j.Cap {
					refuse(t, "for its room", other, 0, p.s, api.ErrSaveState)
				}
			}
			s := p.s
			s.Room++
			refuse(t, "for its room", j, p.steps, s, api.ErrSaveState)
		}
	}
}

// TestLoadOver loads states that are over: rungs may be, and ladders not.
func TestLoadOver(t *testing.T) {
	overs := 0
	for _, j := range slices.Concat(byHand(), mixed(mixer(), 60)) {
		places := slowRun(j)
		e := input.Edges(j)
		for k := j.Rung; k < places[len(places)-1].k; k++ {
			r := rung.New(e, k, j.Cap)
			r.Run(1 << 40)
			s := r.State()
			if _, is := rung.Load(e, s); !is || s.Phase != rung.Over {
				t.Fatal("P12.7: a rung that is over:", s)
			}
			overs++
			refuse(t, "for it is over", j, 1, s, api.ErrSaveState)
		}
	}
	if overs < 100 {
		t.Error("just so many were over:", overs)
	}
}

// TestLoadUnsound loads states that are not sound, or of other edges.
func TestLoadUnsound(t *testing.T) {
	j := of(0, 9, square(4), ring(2, 2, 7, 3, 3, 8))
	other := of(0, 9, square(5), ring(2, 2, 7, 3, 3, 8))
	for _, p := range slowRun(j) {
		for i, turn := range []func(s *rung.State){
			func(s *rung.State) { s.K = 29 },
			func(s *rung.State) { s.Phase = 6 },
			func(s *rung.State) { s.Phase = -1 },
			func(s *rung.State) { s.I = -1 },
			func(s *rung.State) { s.I += 1000 },
			func(s *rung.State) { s.J += 1000 },
			func(s *rung.State) { s.T += 1000 },
			func(s *rung.State) { s.Found = append(slices.Clone(s.Found), grid.Pixel{X: 50, Y: 50}) },
			func(s *rung.State) { s.Hot = append(slices.Clone(s.Hot), grid.Pixel{X: 1 << 40}) },
			func(s *rung.State) { s.Chains = append(slices.Clone(s.Chains), s.Chains...)[:1] },
		} {
			s := p.s
			if i == 9 && len(s.Chains) == 0 {
				continue
			}
			turn(&s)
			refuse(t, "for it is not sound", j, p.steps, s, api.ErrSaveState)
		}
		if p.s.Phase > rung.Ends {
			refuse(t, "for its edges are others", other, p.steps, p.s, api.ErrSaveState)
		}
	}
	refuse(t, "for it is empty", j, 0, rung.State{}, api.ErrSaveState)
}

// TestLoadWrong loads good states, and others, with jobs that may not be: that is told first.
func TestLoadWrong(t *testing.T) {
	j := of(0, 5, square(4))
	l := made(t, j)
	l.Spend(9)
	for err, jobs := range wrongs() {
		for _, x := range jobs {
			refuse(t, "for the job", x, 0, l.State(), err)
			refuse(t, "for the job", x, -1, rung.State{}, err)
			refuse(t, "for the job", x, math.MaxInt, rung.State{Phase: rung.Over}, err)
		}
	}
}
