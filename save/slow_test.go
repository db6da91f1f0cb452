package save

import (
	"fmt"
	"math/big"
	"regexp"
	"strings"

	"cobweb/api"
	"cobweb/chain"
	"cobweb/grid"
	"cobweb/input"
	"cobweb/rung"
)

// numbersForm is what bytes of a row of numbers look like, but for the numbers' sizes.
var numbersForm = regexp.MustCompile(`\A(?:(?:0|-?[1-9][0-9]*)(?: (?:0|-?[1-9][0-9]*))*)?\z`)

// slowPut writes numbers by fmt.
func slowPut(l []int) string {
	text := fmt.Sprint(l)
	return text[1 : len(text)-1]
}

// slowTake reads numbers by their form, and by numbers of any size.
func slowTake(b []byte) (l []int, is bool) {
	if !numbersForm.Match(b) {
		return nil, false
	}
	for _, word := range strings.Fields(string(b)) {
		n, _ := new(big.Int).SetString(word, 10)
		if !n.IsInt64() {
			return nil, false
		}
		l = append(l, int(n.Int64()))
	}
	return l, true
}

// slowJob writes a job by plain loops.
func slowJob(j input.Job) []int {
	l := []int{j.Op, j.Fill, j.Rung, j.Cap}
	for _, rings := range [][]api.Ring{j.A, j.B} {
		l = append(l, len(rings))
		for _, r := range rings {
			l = append(l, len(r))
			for _, p := range r {
				l = append(l, p.X)
				l = append(l, p.Y)
			}
		}
	}
	return l
}

// slowState writes a state by plain loops.
func slowState(s rung.State) []int {
	l := []int{s.K, s.Room, s.Phase, s.I, s.J, s.T, 0}
	if s.Dirty {
		l[6] = 1
	}
	rows := [][]grid.Pixel{s.Hot, s.Found}
	for _, c := range s.Chains {
		rows = append(rows, c.V)
	}
	for i, row := range rows {
		if i == 2 {
			l = append(l, len(s.Chains))
		}
		l = append(l, len(row))
		for _, q := range row {
			l = append(l, q.X, q.Y)
		}
		if i >= 2 {
			l = append(l, len(s.Chains[i-2].D))
			l = append(l, s.Chains[i-2].D...)
		}
	}
	if len(s.Chains) == 0 {
		l = append(l, 0)
	}
	return l
}

// slowReader goes through a row by a place in it, and notes whether there was something wrong.
type slowReader struct {
	l     []int
	at    int
	wrong bool
}

// number tells the next number, and 0 once there is something wrong.
func (r *slowReader) number() int {
	if r.wrong || r.at >= len(r.l) {
		r.wrong = true
		return 0
	}
	r.at++
	return r.l[r.at-1]
}

// count tells the next number, which is a count of things of at least least numbers each.
func (r *slowReader) count(least int) int {
	n := r.number()
	if n < 0 || n > (len(r.l)-r.at)/least {
		r.wrong = true
		return 0
	}
	return n
}

// pairs tells a row of things of two numbers each.
func (r *slowReader) pairs() (l [][2]int) {
	for n := r.count(2); n > 0; n-- {
		x := r.number()
		y := r.number()
		l = append(l, [2]int{x, y})
	}
	return l
}

// slowJobOf reads a job, and tells the numbers behind it.
func slowJobOf(l []int) (input.Job, []int, bool) {
	r := &slowReader{l: l}
	var j input.Job
	for _, to := range []*int{&j.Op, &j.Fill, &j.Rung, &j.Cap} {
		*to = r.number()
	}
	for _, to := range []*[]api.Ring{&j.A, &j.B} {
		for n := r.count(1); n > 0 && !r.wrong; n-- {
			var one api.Ring
			for _, p := range r.pairs() {
				one = append(one, api.Point{X: p[0], Y: p[1]})
			}
			*to = append(*to, one)
		}
	}
	if r.wrong {
		return input.Job{}, nil, false
	}
	return j, l[r.at:], true
}

// slowStateOf reads a state, and tells the numbers behind it.
func slowStateOf(l []int) (rung.State, []int, bool) {
	r := &slowReader{l: l}
	var s rung.State
	for _, to := range []*int{&s.K, &s.Room, &s.Phase, &s.I, &s.J, &s.T} {
		*to = r.number()
	}
	dirty := r.number()
	s.Dirty = dirty == 1
	r.wrong = r.wrong || dirty < 0 || dirty > 1
	row := func() (l []grid.Pixel) {
		for _, p := range r.pairs() {
			l = append(l, grid.Pixel{X: p[0], Y: p[1]})
		}
		return l
	}
	s.Hot = row()
	s.Found = row()
	for n := r.count(2); n > 0 && !r.wrong; n-- {
		c := chain.Chain{V: row()}
		for m := r.count(1); m > 0; m-- {
			c.D = append(c.D, r.number())
		}
		s.Chains = append(s.Chains, c)
	}
	if r.wrong {
		return rung.State{}, nil, false
	}
	return s, l[r.at:], true
}

// slowSaved reads what bytes say that were saved; false, if they are none such.
func slowSaved(b []byte) (j input.Job, steps int, s rung.State, is bool) {
	l, is := slowTake(b)
	if !is || len(l) == 0 || l[0] != 1121 {
		return j, 0, s, false
	}
	j, l, is = slowJobOf(l[1:])
	if !is || len(l) == 0 {
		return j, 0, s, false
	}
	steps = l[0]
	s, l, is = slowStateOf(l[1:])
	return j, steps, s, is && len(l) == 0
}
