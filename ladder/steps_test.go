package ladder

import (
	"math"
	"math/big"
	"slices"
	"testing"

	"cobweb/api"
	"cobweb/input"
	"cobweb/rung"
)

// TestSquare is the chapter's example.
func TestSquare(t *testing.T) {
	l := made(t, of(0, 1, square(4)))
	for i, k := range []int{0, 1, 2, 3} {
		// The square's first edge has its two ends in two pixels, up to those of 4 by 4; on rung 3 the pixels are 8 by 8,
		// but begin at -4.
		if l.K() != k || l.Steps() != i || l.Done() || !l.Step() {
			t.Fatal("P13.2: behind", i, "steps it is on rung", l.K())
		}
	}
	if l.K() != 4 || l.Steps() != 4 || l.Done() {
		t.Fatal("P13.2: it is on rung", l.K())
	}
	// Four edges, six pairs of them, and no link.
	if n := l.Spend(99); !slices.Equal(n, []int{10}) || !l.Done() || l.K() != 4 || l.Steps() != 14 || l.Depth() != 0 {
		t.Fatal("P13.3: it did", n, "and is on rung", l.K(), l.Steps(), l.Depth())
	}
	if l.Step() || l.Steps() != 14 || l.K() != 4 {
		t.Error("P13.2: it goes on when it is done:", l.Steps())
	}
}

// TestNew asks a new ladder for all that it tells.
func TestNew(t *testing.T) {
	for _, j := range slices.Concat(byHand(), mixed(mixer(), 40)) {
		l := made(t, j)
		s := rung.State{K: j.Rung, Room: j.Cap}
		if !isAt(l, place{k: j.Rung, s: s}) {
			t.Error("P13.1: New of", j, "is at", l.K(), l.Steps(), l.Done(), l.Depth(), l.State())
		}
	}
}

// wrongs tells jobs that may not be, and why.
func wrongs() map[api.Errno][]input.Job {
	few, far := ring(0, 0, 1, 1), ring(0, 0, 1<<26+1, 0, 3, 3)
	change := func(to func(j *input.Job)) input.Job {
		j := of(0, 5, square(4))
		to(&j)
		return j
	}
	return map[api.Errno][]input.Job{
		api.ErrInputOp:   {change(func(j *input.Job) { j.Op = 4 }), change(func(j *input.Job) { j.Op, j.Fill, j.Cap = -1, 9, 0 })},
		api.ErrInputFill: {change(func(j *input.Job) { j.Fill = 2 }), change(func(j *input.Job) { j.Fill, j.Rung = -1, -1 })},
		api.ErrInputRung: {change(func(j *input.Job) { j.Rung = 29 }), change(func(j *input.Job) { j.Rung = -1 })},
		api.ErrInputCap:  {{}, change(func(j *input.Job) { j.Cap = 0 }), change(func(j *input.Job) { j.Cap = 1025 })},
		api.ErrInputMany: {{Cap: 5}, of(0, 5, nil), of(0, 5, nil, nil), of(0, 5, make(api.Ring, 257)), of(0, 5, make(api.Ring, 128), make(api.Ring, 129))},
		api.ErrInputRing: {of(0, 5, few), of(0, 5, square(4), few), of(0, 5, nil, square(4))},
		api.ErrInputFar:  {of(0, 5, far), of(0, 5, square(4), far)},
	}
}

// TestNewWrong gives jobs that may not be.
func TestNewWrong(t *testing.T) {
	for err, jobs := range wrongs() {
		for _, j := range jobs {
			if l, e := New(j); l != nil || e != err {
				t.Error("P13.1: New of", j, "answers", e, "and not", err)
			}
		}
	}
}

// TestSteps holds each place of many ladders against going through the rungs by loops.
func TestSteps(t *testing.T) {
	highest := 0
	for _, j := range slices.Concat(byHand(), mixed(mixer(), 150)) {
		l, places := made(t, j), slowRun(j)
		for i, p := range places {
			if !isAt(l, p) {
				t.Fatal("P13.2: of", j, "behind", i, "steps it is at", l.K(), l.Steps(), l.Done(), l.Depth(), l.State(), "and not", p)
			}
			if more := i+1 < len(places); l.Step() != more {
				t.Fatal("P13.2: of", j, "step", i, "isn't", more)
			}
		}
		last := places[len(places)-1]
		if l.Step() || !isAt(l, last) || !last.done {
			t.Fatal("P13.2: of", j, "in the end it is at", l.State())
		}
		highest = max(highest, last.k-j.Rung)
	}
	if highest < 26 {
		t.Error("the most rungs were", highest)
	}
}

// TestSpend spends budgets of all sizes at once, and holds them against single steps.
func TestSpend(t *testing.T) {
	upTo := below(mixer())
	for i, j := range slices.Concat(byHand(), mixed(mixer(), 60)) {
		places := slowRun(j)
		all := len(places) - 1
		for _, budgets := range [][]int{
			nil, {}, {0}, {-1}, {1}, {math.MinInt, -5, 0, 1, 0, 2}, {all}, {all + 1}, {all - 1}, {all - 1, 1, 1}, {all, 1},
			{math.MaxInt}, {math.MaxInt, 5, 0, -1}, {3, math.MaxInt, math.MaxInt}, slices.Repeat([]int{1}, 12), {-1, all, -1, 1, -1},
			{upTo(all + 2), upTo(all + 2), upTo(all + 2)}, {upTo(5), upTo(5), upTo(5), -upTo(5), upTo(5), upTo(5), upTo(5)},
		} {
			l, given := made(t, j), slices.Clone(budgets)
			var want []int
			at := 0
			for _, b := range budgets {
				n := min(max(b, 0), all-at)
				want = append(want, n)
				at += n
			}
			if n := l.Spend(budgets...); !slices.Equal(n, want) || !isAt(l, places[at]) {
				t.Fatal("P13.3: job", i, "given", budgets, "did", n, "and not", want, "and is at", l.Steps())
			}
			if !slices.Equal(budgets, given) {
				t.Fatal("R5: Spend changed the budgets", given, "to", budgets)
			}
		}
	}
}

// TestMany spends many budgets, some ladders at a time.
func TestMany(t *testing.T) {
	j := of(0, 30, square(9), ring(3, 3, 12, 4, 5, 14))
	all := len(slowRun(j)) - 1
	budgets := make([]int, 100000)
	for i := range budgets {
		budgets[i] = i % 2
	}
	for range 3 {
		l := made(t, j)
		n := l.Spend(budgets...)
		if len(n) != len(budgets) || !l.Done() {
			t.Fatal("P13.3: of", len(budgets), "budgets it took", len(n))
		}
		for i, did := range n {
			if want := i % 2; i < 2*all && did != want || i >= 2*all && did != 0 {
				t.Fatal("P13.3: budget", i, "of", want, "did", did)
			}
		}
	}
}

// TestMost holds Most against numbers of any size.
func TestMost(t *testing.T) {
	numbers := []int{math.MinInt, math.MinInt + 1, -1 << 32, -1024, -256, -2, -1, 0, 1, 2, 3, 7, 255, 256, 257, 258, 1023, 1024, 1025, 1 << 31, 1 << 32, 1<<62 + 1, math.MaxInt}
	next := mixer()
	for range 300 {
		numbers = append(numbers, below(next)(1030))
	}
	for _, n := range numbers {
		for _, room := range numbers {
			edges, hot := n, room
			if n < 0 {
				edges = 0
			} else if n > 256 {
				edges = 256
			}
			if room < 1 {
				hot = 1
			} else if room > 1024 {
				hot = 1024
			}
			links := big.NewInt(int64(edges*hot + 1))
			want := new(big.Int).Mul(links, links)
			want.Mul(want, big.NewInt(int64(29*8*(hot+2))))
			if got := Most(n, room); !want.IsInt64() || int64(got) != want.Int64() {
				t.Fatal("P13.4: Most of", n, room, "is", got, "and not", want)
			}
		}
	}
	for _, x := range []struct{ n, room, want int }{{0, 1, 696}, {1, 1, 2784}, {4, 1, 17400}, {2, 9, 921272}, {256, 1024, 16357559283982800}} {
		if got := Most(x.n, x.room); got != x.want {
			t.Error("P13.4: Most of", x.n, x.room, "is", got, "and not", x.want)
		}
	}
}
