package save

import (
	"math"
	"slices"
	"testing"

	"cobweb/api"
	"cobweb/chain"
	"cobweb/input"
	"cobweb/rung"
)

// checkJobOf holds JobOf of numbers against reading them slowly, and tells whether they begin with a job.
func checkJobOf(t *testing.T, l []int) bool {
	t.Helper()
	want, wantLeft, wantIs := slowJobOf(l)
	j, left, is := JobOf(l)
	if is != wantIs || !input.Same(j, want) || !slices.Equal(left, wantLeft) {
		t.Fatal("P14.2: JobOf", l, "is", j, left, is, "and not", want, wantLeft, wantIs)
	}
	return is
}

// checkStateOf holds StateOf of numbers against reading them slowly, and tells whether they begin with a state.
func checkStateOf(t *testing.T, l []int) bool {
	t.Helper()
	want, wantLeft, wantIs := slowStateOf(l)
	s, left, is := StateOf(l)
	if is != wantIs || !rung.Same(s, want) || !slices.Equal(left, wantLeft) {
		t.Fatal("P14.3: StateOf", l, "is", s, left, is, "and not", want, wantLeft, wantIs)
	}
	return is
}

// TestJob writes and reads jobs by hand.
func TestJob(t *testing.T) {
	for _, x := range []struct {
		j    input.Job
		want []int
	}{
		{input.Job{}, []int{0, 0, 0, 0, 0, 0}},
		{input.Job{A: []api.Ring{}, B: []api.Ring{{}, nil}}, []int{0, 0, 0, 0, 0, 2, 0, 0}},
		{input.Job{Op: input.Xor, Fill: input.NonZero, Rung: 7, Cap: 9}, []int{3, 1, 7, 9, 0, 0}},
		{input.Job{Op: -1, Fill: 99, Rung: math.MinInt, Cap: math.MaxInt}, []int{-1, 99, math.MinInt, math.MaxInt, 0, 0}},
		{
			input.Job{A: []api.Ring{ring(1, 2, 3, 4, 5, 6), ring(7, -8)}, B: []api.Ring{ring(-9, 10, 11, 12)}, Op: 2, Fill: 1, Rung: 3, Cap: 4},
			[]int{2, 1, 3, 4, 2, 3, 1, 2, 3, 4, 5, 6, 1, 7, -8, 1, 2, -9, 10, 11, 12},
		},
		{of(5, 6, nil, square(4)), []int{0, 0, 5, 6, 1, 0, 1, 4, 0, 0, 4, 0, 4, 4, 0, 4}},
	} {
		if l := Job(x.j); !slices.Equal(l, x.want) {
			t.Error("P14.2: Job of", x.j, "is", l, "and not", x.want)
		}
		if j, left, is := JobOf(x.want); !is || !input.Same(j, x.j) || len(left) > 0 {
			t.Error("P14.2: JobOf", x.want, "is", j, left, is)
		}
	}
}

// TestState writes and reads states by hand.
func TestState(t *testing.T) {
	for _, x := range []struct {
		s    rung.State
		want []int
	}{
		{rung.State{}, []int{0, 0, 0, 0, 0, 0, 0, 0, 0, 0}},
		{rung.State{K: 1, Room: 2, Phase: 3, I: 4, J: 5, T: 6, Dirty: true}, []int{1, 2, 3, 4, 5, 6, 1, 0, 0, 0}},
		{rung.State{K: -1, T: math.MinInt, Room: math.MaxInt}, []int{-1, math.MaxInt, 0, 0, 0, math.MinInt, 0, 0, 0, 0}},
		{rung.State{Hot: pixels(1, 2, 3, 4), Found: pixels(-5, 6)}, []int{0, 0, 0, 0, 0, 0, 0, 2, 1, 2, 3, 4, 1, -5, 6, 0}},
		{rung.State{Chains: []chain.Chain{{}, {V: pixels(1, 2)}, {D: []int{7, 8}}}}, []int{0, 0, 0, 0, 0, 0, 0, 0, 0, 3, 0, 0, 1, 1, 2, 0, 0, 2, 7, 8}},
		{
			rung.State{K: 9, Room: 8, Dirty: true, Hot: pixels(7, 6), Chains: []chain.Chain{{V: pixels(1, 2, 3, 4), D: []int{5}}}},
			[]int{9, 8, 0, 0, 0, 0, 1, 1, 7, 6, 0, 1, 2, 1, 2, 3, 4, 1, 5},
		},
	} {
		if l := State(x.s); !slices.Equal(l, x.want) {
			t.Error("P14.3: State of", x.s, "is", l, "and not", x.want)
		}
		if s, left, is := StateOf(x.want); !is || !rung.Same(s, x.s) || len(left) > 0 {
			t.Error("P14.3: StateOf", x.want, "is", s, left, is)
		}
	}
}

// behind tells rows of numbers that may be left behind a thing.
func behind(next func() int) [][]int {
	return [][]int{nil, {0}, {-1}, {math.MinInt, math.MaxInt}, {5, 0, 0, 0, 0, 0, 0, 0, 0, 0, 0, 0, 0}, {next(), next(), next()}}
}

// TestJobs writes jobs of all kinds, and reads them with numbers behind them.
func TestJobs(t *testing.T) {
	next := mixer()
	jobs := slices.Concat(byHand(), mixed(next, 100))
	for range 1000 {
		jobs = append(jobs, anyJob(next))
	}
	for _, j := range jobs {
		l := Job(j)
		if want := slowJob(j); !slices.Equal(l, want) {
			t.Fatal("P14.2: Job of", j, "is", l, "and not", want)
		}
		for _, rest := range behind(next) {
			all := slices.Concat(l, rest)
			if got, left, is := JobOf(all); !is || !input.Same(got, j) || !slices.Equal(left, rest) {
				t.Fatal("P14.2: JobOf", all, "is", got, left, is, "and not", j, rest)
			}
		}
		for n := range l {
			if checkJobOf(t, l[:n]) {
				t.Fatal("P14.2: JobOf", l[:n], "ends too soon")
			}
		}
	}
}

// TestStates writes states of all kinds, and reads them with numbers behind them.
func TestStates(t *testing.T) {
	next := mixer()
	var states []rung.State
	for _, j := range slices.Concat(byHand(), mixed(next, 30)) {
		for l := made(t, j); l.Step(); l.Spend(below(next)(20)) {
			states = append(states, l.State())
		}
	}
	for range 1000 {
		states = append(states, anyState(next))
	}
	for i, s := range states {
		l := State(s)
		if want := slowState(s); !slices.Equal(l, want) {
			t.Fatal("P14.3: State of", s, "is", l, "and not", want)
		}
		for _, rest := range behind(next) {
			all := slices.Concat(l, rest)
			if got, left, is := StateOf(all); !is || !rung.Same(got, s) || !slices.Equal(left, rest) {
				t.Fatal("P14.3: StateOf", all, "is", got, left, is, "and not", s, rest)
			}
		}
		for n := 0; n < len(l); n += 1 + i%3 {
			if checkStateOf(t, l[:n]) {
				t.Fatal("P14.3: StateOf", l[:n], "ends too soon")
			}
		}
	}
}

// few tells numbers that counts, and what is told of Dirty, are not, or hardly ever.
func few() []int {
	l := []int{-1, -2, math.MinInt, math.MinInt + 1, math.MaxInt, math.MaxInt - 1, 0, 1, 2, 3, 4, 5, 1000}
	for bit := 16; bit < 63; bit++ {
		l = append(l, 1<<bit, -1<<bit, 1<<bit+1)
	}
	return l
}

// TestCounts sets each number of jobs and states, those that are counts among them, to others, however great.
func TestCounts(t *testing.T) {
	next := mixer()
	told := map[bool]int{}
	for range 60 {
		for _, x := range []struct {
			l     []int
			check func(t *testing.T, l []int) bool
		}{{Job(anyJob(next)), checkJobOf}, {State(anyState(next)), checkStateOf}} {
			for i, n := range x.l {
				for _, other := range append(few(), n+1, n-1, len(x.l), len(x.l)-i, len(x.l)-i-1, (len(x.l)-i)/2) {
					x.l[i] = other
					told[x.check(t, x.l)]++
				}
				x.l[i] = n
			}
		}
	}
	if told[true] < 10000 || told[false] < 10000 {
		t.Error("it was told", told)
	}
}

// TestDirty sets what is told of Dirty to numbers of all sizes.
func TestDirty(t *testing.T) {
	l := State(rung.State{K: 3, Hot: pixels(1, 2)})
	for _, n := range edgeNumbers() {
		l[6] = n
		s, left, is := StateOf(l)
		if is != (n == 0 || n == 1) || s.Dirty != (n == 1) || len(left) > 0 {
			t.Error("P14.3: of Dirty", n, "StateOf is", s, left, is)
		}
		if !is && !rung.Same(s, rung.State{}) {
			t.Error("P14.3: StateOf tells false, and", s)
		}
	}
}

// TestShortRows reads all short rows of few numbers behind a job's four, and a state's six.
func TestShortRows(t *testing.T) {
	told := map[bool]int{}
	for _, x := range []struct {
		ahead []int
		most  int
		check func(t *testing.T, l []int) bool
	}{{[]int{5, 6, 7, 8}, 7, checkJobOf}, {[]int{3, 4, 5, 6, 7, 8}, 8, checkStateOf}} {
		for n := range x.ahead {
			x.check(t, x.ahead[:n])
		}
		var goOn func(l []int, left int)
		goOn = func(l []int, left int) {
			told[x.check(t, l)]++
			for n := -1; n <= 2 && left > 0; n++ {
				goOn(append(l[:len(l):len(l)], n), left-1)
			}
		}
		goOn(x.ahead, x.most)
	}
	if told[true] < 1000 || told[false] < 10000 {
		t.Error("it was told", told)
	}
}

// TestMixedRows reads rows of mixed numbers, most of them small.
func TestMixedRows(t *testing.T) {
	next := mixer()
	upTo := below(next)
	for range 40000 {
		var l []int
		for range upTo(30) {
			if n := upTo(4); upTo(40) > 0 {
				l = append(l, n)
			} else {
				l = append(l, next())
			}
		}
		checkJobOf(t, l)
		checkStateOf(t, l)
	}
}

// TestLongRows reads counts of far more than is left ahead of much that is left.
func TestLongRows(t *testing.T) {
	zeros := make([]int, 1<<17)
	for _, n := range []int{len(zeros) - 2, len(zeros) - 1, len(zeros), 1 << 40, math.MaxInt} {
		job := append([]int{0, 0, 0, 0, n}, zeros...)
		checkJobOf(t, job)
		checkJobOf(t, append([]int{0, 0, 0, 0, 0, 1, n}, zeros...))
		for _, ahead := range [][]int{{n}, {0, n}, {0, 0, n}, {0, 0, 1, n}, {0, 0, 1, 0, n}} {
			checkStateOf(t, slices.Concat(make([]int, 7), ahead, zeros))
		}
	}
}
