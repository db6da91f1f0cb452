package input

import (
	"slices"
	"testing"

	"cobweb/api"
)

// spare tells l with memory behind it, and all of that memory, in which more stands.
func spare[T any](l []T, more ...T) (front, whole []T) {
	whole = append(slices.Clone(l), more...)
	return whole[:len(l)], whole
}

// spoil writes into all of l, and of the memory behind it.
func spoil[T any](l []T, v T) {
	l = append(l, v)
	l = l[:cap(l)]
	for i := range l {
		l[i] = v
	}
}

// spoilJob writes into all rings of a job, and into its lists.
func spoilJob(j Job) {
	for _, l := range [][]api.Ring{j.A, j.B} {
		for _, r := range l {
			spoil(r, at(-77, 77))
		}
		spoil(l, ring(-7, 7))
	}
}

// roomy tells a job whose lists, and rings, have more behind them in their memory, and what all of that is.
func roomy() (j Job, lists, points func() bool) {
	pool := ring(0, 0, 4, 0, 4, 4, 0, 4, 1, 1, 6, 2, 3, 7, 9, 9)
	r, s, none := pool[:4], pool[4:7], pool[2:2]
	a, wholeA := spare(rings(r, s, none), s, r)
	b, wholeB := spare(rings(s, r, nil), r, r)
	wasPool := slices.Clone(pool)
	is := func(l, want []api.Ring) bool {
		return slices.EqualFunc(l, want, func(x, y api.Ring) bool { return slices.Equal(x, y) })
	}
	wantA, wantB := apart(rings(r, s, none, s, r)), apart(rings(s, r, nil, r, r))
	lists = func() bool { return is(wholeA, wantA) && is(wholeB, wantB) }
	return Job{A: a, B: b, Op: Xor, Cap: 3}, lists, func() bool { return slices.Equal(pool, wasPool) }
}

// TestAsked asks all that is only asked: what is handed in, and what stands behind it, stays.
func TestAsked(t *testing.T) {
	j, lists, points := roomy()
	for range 2 {
		Check(j)
		Edges(j)
		Clone(j)
		Same(j, j)
		Same(j, good())
		Wants(j, 1, 0)
		Wind(j.A, 3, 3)
		Wind(j.B, 1<<40, 3)
		if !lists() || !points() {
			t.Fatal("P11.1 to P11.4, R5: asking changed", j)
		}
	}
}

func TestCloneOwn(t *testing.T) {
	j, lists, points := roomy()
	first, second := Clone(j), Clone(j)
	was := copied(j)
	spoilJob(first)
	if !lists() || !points() {
		t.Error("P11.2, R6: what was written into a clone changed", j)
	}
	if !Same(second, was) {
		t.Error("P11.2, R6: what was written into a clone changed another one:", second)
	}
	for _, l := range [][]api.Ring{j.A, j.B} {
		for _, r := range l {
			for i := range r {
				r[i] = at(-1, -1)
			}
		}
	}
	spoil(j.A, nil)
	spoil(j.B, nil)
	if !Same(second, was) {
		t.Error("P11.2, R6: a clone keeps what was handed in:", second)
	}
}

// TestCloneApart writes into the rings of a clone that were one in memory: they are not one any more.
func TestCloneApart(t *testing.T) {
	r := ring(0, 0, 4, 0, 4, 4)
	l := rings(r, r)
	c := Clone(Job{A: l, B: l})
	c.A[0][0] = at(9, 9)
	c.B[1][2] = at(8, 8)
	c.A[1] = append(c.A[1], at(7, 7))
	want := Job{A: rings(ring(9, 9, 4, 0, 4, 4), ring(0, 0, 4, 0, 4, 4, 7, 7)), B: rings(r, ring(0, 0, 4, 0, 8, 8))}
	if !Same(c, want) || !slices.Equal(r, ring(0, 0, 4, 0, 4, 4)) {
		t.Error("P11.2, R6: rings of a clone share memory:", c, r)
	}
}

func TestEdgesOwn(t *testing.T) {
	j, lists, points := roomy()
	first, second := Edges(j), Edges(j)
	was := slices.Clone(second)
	spoil(first, Edge{Of: 77})
	if !lists() || !points() || !slices.Equal(second, was) || !slices.Equal(Edges(j), was) {
		t.Error("P11.2, R6: what was written into edges changed", j, second)
	}
	for i := range j.A[0] {
		j.A[0][i] = at(-1, -1)
	}
	if !slices.Equal(second, was) {
		t.Error("P11.2, R6: edges keep what was handed in:", second)
	}
}
