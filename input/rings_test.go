package input

import (
	"slices"
	"testing"

	"cobweb/api"
)

// jobs tells jobs no two of which are the same; some may be, some not.
func jobs() []Job {
	one, other := ring(0, 0, 4, 0, 4, 4), ring(1, 1, 6, 2, 3, 7)
	return []Job{
		{},
		{Op: 1}, {Op: -1}, {Fill: 1}, {Rung: 1}, {Cap: 1},
		{A: rings(nil)}, {B: rings(nil)}, {A: rings(nil), B: rings(nil)}, {A: rings(nil, nil)},
		{A: rings(one)}, {B: rings(one)}, {A: rings(other)}, {A: rings(one, other)}, {A: rings(other, one)}, {A: rings(one), B: rings(other)}, {B: rings(one, other)},
		{A: rings(one, nil)}, {A: rings(nil, one)}, {A: rings(one[:2])}, {A: rings(one[:1])}, {A: rings(one[1:], one[:1])}, {A: rings(slices.Concat(one, other))},
		{A: rings(one, one)}, {A: rings(slices.Concat(one, one))},
		{A: rings(ring(0, 0, 4, 0, 4, 5))}, {A: rings(ring(0, 0, 4, 0, 5, 4))}, {A: rings(ring(1, 0, 4, 0, 4, 4))}, {A: rings(ring(0, 1, 4, 0, 4, 4))}, {A: rings(ring(4, 0, 4, 4, 0, 0))}, {A: rings(ring(0, 0, 4, 4, 4, 0))},
		{A: rings(one), Op: 1}, {A: rings(one), Fill: 1}, {A: rings(one), Rung: 1}, {A: rings(one), Cap: 1}, {A: rings(one), Cap: 1 << 40}, {A: rings(one), Cap: -1},
		{A: rings(one), B: rings(other), Op: 3, Fill: 1, Rung: 28, Cap: 1024}, {A: rings(one), B: rings(ring(1, 1, 6, 2, 3, 8)), Op: 3, Fill: 1, Rung: 28, Cap: 1024},
	}
}

// copied tells a job in memory of its own, with empty lists in the place of none.
func copied(j Job) Job {
	j.A, j.B = slices.Concat(rings(), apart(j.A)), slices.Concat(rings(), apart(j.B))
	return j
}

func TestSame(t *testing.T) {
	for i, a := range jobs() {
		for k, b := range jobs() {
			if Same(a, b) != (i == k) || Same(a, copied(b)) != (i == k) || Same(copied(a), b) != (i == k) {
				t.Error("P11.2: Same of jobs", i, k, "is", Same(a, b), Same(a, copied(b)), Same(copied(a), b))
			}
		}
	}
}

func TestClone(t *testing.T) {
	for i, a := range jobs() {
		for k, b := range jobs() {
			if Same(Clone(a), b) != (i == k) {
				t.Error("P11.2: a clone of job", i, "beside", k, "is", Clone(a))
			}
		}
	}
}

func TestEdges(t *testing.T) {
	edge := func(of, px, py, qx, qy int) Edge { return Edge{P: at(px, py), Q: at(qx, qy), Of: of} }
	for i, x := range []struct {
		j    Job
		want []Edge
	}{
		{Job{}, nil},
		{Job{A: rings(nil), B: rings(nil, api.Ring{})}, nil},
		{Job{A: rings(ring(5, 6))}, []Edge{edge(0, 5, 6, 5, 6)}},
		{Job{B: rings(ring(5, 6))}, []Edge{edge(1, 5, 6, 5, 6)}},
		{Job{A: rings(ring(5, 6, 7, 8))}, []Edge{edge(0, 5, 6, 7, 8), edge(0, 7, 8, 5, 6)}},
		{Job{A: rings(ring(0, 0, 4, 0, 4, 4))}, []Edge{edge(0, 0, 0, 4, 0), edge(0, 4, 0, 4, 4), edge(0, 4, 4, 0, 0)}},
		{Job{B: rings(ring(2, 1, 2, 1, 2, 1))}, []Edge{edge(1, 2, 1, 2, 1), edge(1, 2, 1, 2, 1), edge(1, 2, 1, 2, 1)}},
		{
			Job{A: rings(ring(1, 1), nil, ring(2, 2, 3, 3)), B: rings(nil, ring(4, 4, 5, 5, 6, 7), ring(8, 8))},
			[]Edge{edge(0, 1, 1, 1, 1), edge(0, 2, 2, 3, 3), edge(0, 3, 3, 2, 2), edge(1, 4, 4, 5, 5), edge(1, 5, 5, 6, 7), edge(1, 6, 7, 4, 4), edge(1, 8, 8, 8, 8)},
		},
		{Job{B: rings(ring(1<<62, -1<<63)), Op: 77, Cap: -1}, []Edge{edge(1, 1<<62, -1<<63, 1<<62, -1<<63)}},
	} {
		if got := Edges(x.j); !slices.Equal(got, x.want) {
			t.Error("P11.2: Edges", i, "is", got)
		}
	}
}

// TestEdgesMany holds Edges against what is told from behind, of many rings of many points.
func TestEdgesMany(t *testing.T) {
	next := mixer()
	less := below(next)
	for range 300 {
		var areas [2][]api.Ring
		var want []Edge
		for of := range areas {
			for range less(6) {
				var r api.Ring
				for range less(9) {
					r = append(r, at(next(), next()))
				}
				areas[of] = append(areas[of], r)
				for i := range r {
					want = append(want, Edge{P: r[i], Of: of})
					if i > 0 {
						want[len(want)-2].Q = r[i]
					}
				}
				if len(r) > 0 {
					want[len(want)-1].Q = r[0]
				}
			}
		}
		if got := Edges(Job{A: areas[0], B: areas[1]}); !slices.Equal(got, want) {
			t.Fatal("P11.2: Edges of", areas, "is", got)
		}
	}
	if n := len(Edges(Job{A: rings(some(100000)), B: rings(some(3))})); n != 100003 {
		t.Error("P11.2: of 100003 points there are", n, "edges")
	}
}
