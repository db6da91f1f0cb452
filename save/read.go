package save

import (
	"slices"

	"cobweb/api"
	"cobweb/chain"
	"cobweb/grid"
	"cobweb/input"
	"cobweb/rung"
)

// JobOf gives the job with which l begins, and the numbers behind it; false, if it begins with none.
func JobOf(l []int) (input.Job, []int, bool) { return read(l, (*reader).job) }

// StateOf gives the state with which l begins, and the numbers behind it; false, if it begins with none.
func StateOf(l []int) (rung.State, []int, bool) { return read(l, (*reader).state) }

// reader takes things off the front of a row of numbers. Its methods panic, where the row isn't one of such things.
type reader struct{ left []int }

// read gives what take takes off the front of l, and what is left; zero, nothing, and false, if take panics.
func read[T any](l []int, take func(r *reader) T) (v T, left []int, is bool) {
	// Where take panics, nothing has been set, and all that is told stays zero.
	defer func() { _ = recover() }()
	r := &reader{left: l}
	v = take(r)
	return v, slices.Clone(r.left), true
}

// number takes the first number that is left.
func (r *reader) number() int {
	if len(r.left) == 0 {
		panic("the numbers end too soon")
	}
	n := r.left[0]
	r.left = r.left[1:]
	return n
}

// truth takes a 0, or a 1.
func (r *reader) truth() bool {
	n := r.number()
	if n != 0 && n != 1 {
		panic("a truth is neither 0 nor 1")
	}
	return n == 1
}

// rowOf takes how many things there are, and then each of them.
func rowOf[T any](r *reader, take func(r *reader) T) []T {
	n := r.number()
	if n < 0 {
		panic("a count is below 0")
	}
	// The row grows as it is read, for it may be said to be far longer than it can be.
	var row []T
	for range n {
		row = append(row, take(r))
	}
	return row
}

func (r *reader) point() api.Point { return api.Point{X: r.number(), Y: r.number()} }

func (r *reader) pixel() grid.Pixel { return grid.Pixel{X: r.number(), Y: r.number()} }

func (r *reader) ring() api.Ring { return rowOf(r, (*reader).point) }

func (r *reader) chain() chain.Chain {
	return chain.Chain{V: rowOf(r, (*reader).pixel), D: rowOf(r, (*reader).number)}
}

func (r *reader) job() input.Job {
	return input.Job{
		Op:   r.number(),
		Fill: r.number(),
		Rung: r.number(),
		Cap:  r.number(),
		A:    rowOf(r, (*reader).ring),
		B:    rowOf(r, (*reader).ring),
	}
}

func (r *reader) state() rung.State {
	return rung.State{
		K:      r.number(),
		Room:   r.number(),
		Phase:  r.number(),
		I:      r.number(),
		J:      r.number(),
		T:      r.number(),
		Dirty:  r.truth(),
		Hot:    rowOf(r, (*reader).pixel),
		Found:  rowOf(r, (*reader).pixel),
		Chains: rowOf(r, (*reader).chain),
	}
}

// saved takes the mark, and what was saved behind it.
func (r *reader) saved() saved {
	if r.number() != Mark {
		panic("the mark is missing")
	}
	return saved{job: r.job(), steps: r.number(), state: r.state()}
}
