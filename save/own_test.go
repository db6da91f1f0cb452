package save

import (
	"bytes"
	"slices"
	"testing"

	"cobweb/api"
	"cobweb/chain"
	"cobweb/grid"
	"cobweb/input"
	"cobweb/rung"
)

// spoil writes into all of l, and of the memory behind it.
func spoil[T any](l []T, v T) {
	l = append(l, v)
	l = l[:cap(l)]
	for i := range l {
		l[i] = v
	}
}

// spoilJob writes into all lists of j.
func spoilJob(j input.Job) {
	for _, r := range slices.Concat(j.A, j.B) {
		spoil(r, api.Point{X: 5, Y: -5})
	}
	spoil(j.A, nil)
	spoil(j.B, nil)
}

// spoilState writes into all lists of s.
func spoilState(s rung.State) {
	mark := grid.Pixel{X: -77, Y: 77}
	for _, c := range s.Chains {
		spoil(c.V, mark)
		spoil(c.D, 77)
	}
	spoil(s.Hot, mark)
	spoil(s.Found, mark)
	spoil(s.Chains, chain.New(mark, mark))
}

// TestPutOwn writes into what Put and Take were given, and into what they told.
func TestPutOwn(t *testing.T) {
	given := []int{3, -20, 0}
	b, other := Put(given), Put(given)
	spoil(other, 'x')
	spoil(given, 9)
	if string(b) != "3 -20 0" {
		t.Errorf("R6: Put's bytes became %q", b)
	}
	roomy := make([]int, 3, 9)
	if Put(roomy); !slices.Equal(roomy[:9], make([]int, 9)) {
		t.Error("R5: Put changed what it was given to", roomy[:9])
	}
	more := append([]byte("3 -20 0"), "123"...)
	first, _ := Take(more[:7])
	second, _ := Take(more[:7])
	if string(more) != "3 -20 0123" {
		t.Errorf("R5: Take changed what it was given to %q", more)
	}
	spoil(more, 'x')
	spoil(second, 9)
	if !slices.Equal(first, []int{3, -20, 0}) {
		t.Error("R6: Take's numbers became", first)
	}
}

// TestRowsOwn writes into what Job, JobOf, State and StateOf were given, and into what they told.
func TestRowsOwn(t *testing.T) {
	next := mixer()
	for range 300 {
		j, s := anyJob(next), anyState(next)
		wantJob, wantState := slowJob(j), slowState(s)
		jobRow, stateRow := Job(j), State(s)
		spoil(Job(j), 9)
		spoil(State(s), 9)
		if !slices.Equal(slowJob(j), wantJob) || !slices.Equal(slowState(s), wantState) {
			t.Fatal("R5: Job, or State, changed what it was given, to", j, s)
		}
		checkReadOwn(t, jobRow, stateRow)
		spoilJob(j)
		spoilState(s)
		if !slices.Equal(jobRow, wantJob) || !slices.Equal(stateRow, wantState) {
			t.Fatal("R6: Job, or State, keeps what it was given")
		}
	}
}

// checkReadOwn reads a job's numbers, and a state's, with others behind them, and writes into all.
func checkReadOwn(t *testing.T, jobRow, stateRow []int) {
	t.Helper()
	rest := []int{4, 5, 6}
	jobAll, stateAll := slices.Concat(jobRow, rest), slices.Concat(stateRow, rest)
	j, jobLeft, _ := JobOf(jobAll)
	s, stateLeft, _ := StateOf(stateAll)
	other, otherLeft, _ := JobOf(jobAll)
	second, secondLeft, _ := StateOf(stateAll)
	spoilJob(other)
	spoilState(second)
	spoil(otherLeft, 9)
	spoil(secondLeft, 9)
	if !slices.Equal(jobAll, slices.Concat(jobRow, rest)) || !slices.Equal(stateAll, slices.Concat(stateRow, rest)) {
		t.Fatal("R5, R6: what was told by JobOf, or StateOf, shares what was handed in")
	}
	spoil(jobAll, 9)
	spoil(stateAll, 9)
	if !slices.Equal(jobLeft, rest) || !slices.Equal(stateLeft, rest) || !slices.Equal(slowJob(j), jobRow) || !slices.Equal(slowState(s), stateRow) {
		t.Fatal("R6: JobOf, or StateOf, keeps what it was given:", j, jobLeft, s, stateLeft)
	}
}

// TestListsApart writes behind each list of an answer: all others stay.
func TestListsApart(t *testing.T) {
	next := mixer()
	for range 300 {
		jobRow, stateRow := slowJob(anyJob(next)), slowState(anyState(next))
		j, _, _ := JobOf(jobRow)
		for _, l := range [][]api.Ring{j.A, j.B} {
			for _, r := range l {
				_ = append(r, api.Point{X: 5, Y: -5})
			}
			_ = append(l, ring(1, 2))
		}
		s, _, _ := StateOf(stateRow)
		for _, c := range s.Chains {
			_, _ = append(c.V, grid.Pixel{X: 8}), append(c.D, 9)
		}
		_, _, _ = append(s.Hot, grid.Pixel{X: 8}), append(s.Found, grid.Pixel{X: 8}), append(s.Chains, chain.Chain{})
		if !slices.Equal(slowJob(j), jobRow) || !slices.Equal(slowState(s), stateRow) {
			t.Fatal("R6: two lists share memory:", j, s)
		}
	}
}

// TestEncodeOwn encodes, and goes on; and writes into bytes, and the job, that were decoded.
func TestEncodeOwn(t *testing.T) {
	for _, j := range []input.Job{of(0, 6, square(4), ring(2, 2, 7, 3, 3, 8)), of(0, 30, ring(0, 9, 6, -8, -9, 3, 9, 3, -6, -8))} {
		last := made(t, j)
		last.Spend(1 << 40)
		l, twin := made(t, j), made(t, j)
		for more := true; more; more = l.Step() {
			b := Encode(j, l)
			spoil(Encode(j, l), '0')
			if !isSame(l, twin) || !bytes.Equal(Encode(j, l), b) {
				t.Fatal("R5: Encode changed the ladder to", l.State())
			}
			given := slices.Clone(b)
			first, m, _ := Decode(given)
			second, other, _ := Decode(given)
			if !bytes.Equal(given, b) {
				t.Fatalf("R5: Decode changed %q to %q", b, given)
			}
			spoil(given, '0')
			spoilJob(second)
			other.Spend(1 << 40)
			if !input.Same(first, j) || !isSame(m, l) || !isSame(other, last) {
				t.Fatal("R6: what was decoded shares what was written into:", first, m.State(), other.State())
			}
			twin.Step()
			if want := encoded(j, m.Steps(), m.State()); !bytes.Equal(b, want) {
				t.Fatalf("R6: what was encoded became %q", b)
			}
		}
	}
}
