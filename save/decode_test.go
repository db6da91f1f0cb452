package save

import (
	"bytes"
	"math"
	"slices"
	"testing"

	"cobweb/api"
	"cobweb/grid"
	"cobweb/input"
	"cobweb/ladder"
	"cobweb/rung"
)

// encoded tells the bytes of a job, steps and a state, whether they may be or not.
func encoded(j input.Job, steps int, s rung.State) []byte {
	return []byte(slowPut(slices.Concat([]int{1121}, slowJob(j), []int{steps}, slowState(s))))
}

// isSame tells whether two ladders are at the same place.
func isSame(a, b *ladder.Ladder) bool {
	return a.K() == b.K() && a.Steps() == b.Steps() && a.Done() == b.Done() && a.Depth() == b.Depth() && rung.Same(a.State(), b.State())
}

// checkDecode holds Decode of bytes against reading them slowly and loading what they say, and tells the error.
func checkDecode(t *testing.T, b []byte) api.Errno {
	t.Helper()
	j, l, err := Decode(b)
	var want *ladder.Ladder
	wantErr := api.ErrSaveForm
	wantJob, steps, s, is := slowSaved(b)
	if is {
		want, wantErr = ladder.Load(wantJob, steps, s)
	}
	if err != wantErr || (l == nil) != (want == nil) {
		t.Fatalf("P14.4: Decode of %q answers %d and not %d", b, err, wantErr)
	}
	if err != api.OK {
		if !input.Same(j, input.Job{}) {
			t.Fatalf("P14.4: Decode of %q tells %d, and %v", b, err, j)
		}
		return err
	}
	if !input.Same(j, wantJob) || !isSame(l, want) {
		t.Fatalf("P14.4: Decode of %q is %v %v and not %v %v", b, j, l.State(), wantJob, s)
	}
	if again := Encode(j, l); !bytes.Equal(again, b) {
		t.Fatalf("P14.5: Decode of %q is encoded as %q", b, again)
	}
	return err
}

// decoded tells the ladder that was encoded.
func decoded(t *testing.T, b []byte) *ladder.Ladder {
	t.Helper()
	_, l, err := Decode(b)
	if l == nil || err != api.OK {
		t.Fatalf("P14.4: Decode of %q answers %d", b, err)
	}
	return l
}

// TestEncode encodes by hand.
func TestEncode(t *testing.T) {
	j := of(0, 9, square(4))
	l := made(t, j)
	for _, x := range []struct {
		spend int
		want  string
	}{
		{0, "1121 0 0 0 9 1 4 0 0 4 0 4 4 0 4 0 0 0 9 0 0 0 0 0 0 0 0"},
		{2, "1121 0 0 0 9 1 4 0 0 4 0 4 4 0 4 0 2 0 9 0 2 0 0 0 3 0 0 4 0 4 4 0 0"},
		{3, "1121 0 0 0 9 1 4 0 0 4 0 4 4 0 4 0 5 0 9 1 0 2 0 0 4 0 0 4 0 4 4 0 4 0 0"},
		{100, "1121 0 0 0 9 1 4 0 0 4 0 4 4 0 4 0 32 0 9 4 0 0 0 0 4 0 0 4 0 4 4 0 4 0 4 2 0 0 4 0 1 1 2 4 0 4 4 1 1 2 4 4 0 4 1 1 2 0 4 0 0 1 1"},
	} {
		l.Spend(x.spend)
		b := Encode(j, l)
		if string(b) != x.want {
			t.Fatalf("P14.4: behind %d steps Encode is %q and not %q", l.Steps(), b, x.want)
		}
		got, m, err := Decode([]byte(x.want))
		if err != api.OK || !input.Same(got, j) || !isSame(m, l) {
			t.Fatalf("P14.4: Decode of %q is %v %d", x.want, got, err)
		}
	}
	j = input.Job{B: []api.Ring{ring(-5, 6, 7, -8, 9, 10)}, Op: input.Diff, Fill: input.NonZero, Rung: 3, Cap: 20}
	if b, want := Encode(j, made(t, j)), "1121 2 1 3 20 0 1 3 -5 6 7 -8 9 10 0 3 20 0 0 0 0 0 0 0 0"; string(b) != want {
		t.Errorf("P14.4: Encode is %q and not %q", b, want)
	}
}

// TestEncodeNone encodes no ladder, of any job.
func TestEncodeNone(t *testing.T) {
	for _, j := range append(byHand(), input.Job{}) {
		if b := Encode(j, nil); len(b) > 0 {
			t.Errorf("P14.4: Encode of no ladder is %q", b)
		}
	}
	if err := checkDecode(t, nil); err != api.ErrSaveForm {
		t.Error("P14.4: Decode of no bytes answers", err)
	}
}

// TestEncodeAny encodes jobs of all kinds with ladders that are not theirs.
func TestEncodeAny(t *testing.T) {
	next := mixer()
	l := made(t, of(0, 9, square(4)))
	for range 300 {
		j := anyJob(next)
		l.Step()
		b, want := Encode(j, l), encoded(j, l.Steps(), l.State())
		if !bytes.Equal(b, want) {
			t.Fatalf("P14.4: Encode is %q and not %q", b, want)
		}
		if err := checkDecode(t, b); err == api.OK || err == api.ErrSaveForm {
			t.Fatalf("P14.4: Decode of %q answers %d", b, err)
		}
	}
}

// TestPlaces encodes ladders at each step of many jobs, decodes them, and goes on.
func TestPlaces(t *testing.T) {
	next := mixer()
	upTo := below(next)
	phases := map[int]int{}
	for _, j := range slices.Concat(byHand(), mixed(next, 36)) {
		last := made(t, j)
		last.Spend(1 << 40)
		var ahead *ladder.Ladder
		for l, more := made(t, j), true; more; more = l.Step() {
			phases[l.State().Phase]++
			b := Encode(j, l)
			if want := encoded(j, l.Steps(), l.State()); !bytes.Equal(b, want) {
				t.Fatalf("P14.4: Encode is %q and not %q", b, want)
			}
			if err := checkDecode(t, b); err != api.OK {
				t.Fatalf("P14.5: Decode of %q answers %d", b, err)
			}
			if ahead != nil && (!ahead.Step() || !isSame(ahead, l)) {
				t.Fatalf("P14.5: a step short of %q what was decoded comes to %v", b, ahead.State())
			}
			ahead = decoded(t, b)
			if upTo(30) > 0 {
				continue
			}
			if m := decoded(t, b); len(m.Spend(1<<40)) != 1 || !isSame(m, last) || m.Step() {
				t.Fatalf("P14.5: decoded from %q it comes to %v and not %v", b, m.State(), last.State())
			}
		}
	}
	for phase := rung.Ends; phase <= rung.Done; phase++ {
		if phases[phase] < 50 {
			t.Error("of phase", phase, "there were just", phases[phase])
		}
	}
}

// TestPauses saves and loads ladders again and again, and holds their ends against those that went on at once.
func TestPauses(t *testing.T) {
	next := mixer()
	upTo := below(next)
	for _, j := range slices.Concat(byHand(), mixed(next, 40)) {
		last := made(t, j)
		last.Spend(1 << 40)
		for _, size := range []int{3, 10, 100} {
			mine, l := j, made(t, j)
			for !l.Done() {
				l.Spend(1 + upTo(size))
				b := Encode(mine, l)
				var err api.Errno
				if mine, l, err = Decode(b); err != api.OK || !input.Same(mine, j) {
					t.Fatalf("P14.5: Decode of %q answers %v %d", b, mine, err)
				}
			}
			if !isSame(l, last) || !bytes.Equal(Encode(mine, l), Encode(j, last)) {
				t.Fatal("P14.5: with pauses of", j, "it comes to", l.State(), l.Steps(), "and not", last.State(), last.Steps())
			}
		}
	}
}

// samples tells bytes of ladders in all phases.
func samples(t *testing.T) (l [][]byte) {
	for _, j := range []input.Job{
		of(0, 9, square(4)),
		{A: []api.Ring{ring(0, 9, 6, -8, -9, 3, 9, 3, -6, -8)}, B: []api.Ring{square(3)}, Op: input.Xor, Fill: input.NonZero, Cap: 30},
	} {
		x := made(t, j)
		for phase := rung.Ends; phase <= rung.Done; phase++ {
			for x.State().Phase < phase {
				x.Step()
			}
			for range 2 {
				l = append(l, Encode(j, x))
				x.Step()
			}
		}
	}
	return l
}

// TestDecodeBytes decodes bytes that were encoded, with one of them left out, turned to another, or put in, and cut.
func TestDecodeBytes(t *testing.T) {
	told := map[api.Errno]int{}
	for _, b := range samples(t) {
		told[checkDecode(t, b)]++
		for i := range b {
			told[checkDecode(t, b[:i])]++
			told[checkDecode(t, b[i:])]++
			told[checkDecode(t, slices.Concat(b[:i], b[i+1:]))]++
			for _, c := range []byte(" -0159+x\n\x00") {
				told[checkDecode(t, slices.Concat(b[:i], []byte{c}, b[i:]))]++
				told[checkDecode(t, slices.Concat(b[:i], []byte{c}, b[i+1:]))]++
			}
		}
	}
	for _, err := range []api.Errno{api.OK, api.ErrSaveForm, api.ErrSaveState, api.ErrInputOp, api.ErrInputFill, api.ErrInputRung, api.ErrInputCap} {
		if told[err] == 0 {
			t.Error("P14.4: nothing answers", err)
		}
	}
}

// TestDecodeNumbers decodes bytes that were encoded, with one of their numbers left out, turned to another, or put in.
func TestDecodeNumbers(t *testing.T) {
	few := []int{-1, 0, 1, 2, 5, 29, 1121, math.MaxInt, math.MinInt}
	for _, b := range samples(t) {
		l, _ := slowTake(b)
		for i, n := range l {
			checkDecode(t, Put(l[:i]))
			checkDecode(t, Put(slices.Concat(l[:i], l[i+1:])))
			for _, other := range append(few, n+1, n-1, -n) {
				checkDecode(t, Put(slices.Concat(l[:i], []int{other}, l[i:])))
				checkDecode(t, Put(slices.Concat(l[:i], []int{other}, l[i+1:])))
			}
		}
	}
}

// TestDecodeForm decodes bytes that are not such, whatever the job, the steps and the state in them are.
func TestDecodeForm(t *testing.T) {
	good := of(0, 9, square(4))
	l := made(t, good)
	l.Spend(10)
	for _, x := range []struct {
		j     input.Job
		steps int
		s     rung.State
	}{{good, 10, l.State()}, {input.Job{}, 10, l.State()}, {good, -1, l.State()}, {good, 10, rung.State{}}, {input.Job{Op: 9}, math.MinInt, rung.State{K: 99}}} {
		b := string(encoded(x.j, x.steps, x.s))
		for _, text := range []string{
			"", " ", "x", "1121", "1121 ", b + " ", " " + b, b + " 0", b + " 1121", b + "\n", b + "x", b + " " + b, "0 " + b, "-" + b, "+" + b, "0" + b,
			"1120" + b[4:], "1122" + b[4:], "-1121" + b[4:], "0" + b[4:], "1" + b, b[5:], b[:4] + "  " + b[5:], b[:4] + b[5:], b[:4] + "\t" + b[5:], b[:len(b)-1], b[:len(b)-2], b[1:],
			b[:5] + "-0" + b[6:], b[:5] + "00" + b[6:], b[:5] + "9223372036854775808" + b[6:], b[:5] + "+" + b[5:],
		} {
			if _, _, _, is := slowSaved([]byte(text)); is {
				t.Fatalf("%q is such", text)
			}
			if err := checkDecode(t, []byte(text)); err != api.ErrSaveForm {
				t.Fatalf("P14.4: Decode of %q answers %d", text, err)
			}
		}
	}
}

// wrongs tells jobs that may not be, and why.
func wrongs() map[api.Errno][]input.Job {
	few, far := ring(0, 0, 1, 1), ring(0, 0, 1<<26+1, 0, 3, 3)
	change := func(to func(j *input.Job)) input.Job {
		j := of(0, 9, square(4))
		to(&j)
		return j
	}
	return map[api.Errno][]input.Job{
		api.ErrInputOp:   {change(func(j *input.Job) { j.Op = 4 }), change(func(j *input.Job) { j.Op, j.Fill, j.Cap = -1, 9, 0 })},
		api.ErrInputFill: {change(func(j *input.Job) { j.Fill = 2 }), change(func(j *input.Job) { j.Fill, j.Rung = -1, -1 })},
		api.ErrInputRung: {change(func(j *input.Job) { j.Rung = 29 }), change(func(j *input.Job) { j.Rung = math.MinInt })},
		api.ErrInputCap:  {{}, change(func(j *input.Job) { j.Cap = 0 }), change(func(j *input.Job) { j.Cap = math.MaxInt })},
		api.ErrInputMany: {{Cap: 9}, of(0, 9, nil), of(0, 9, nil, nil), of(0, 9, make(api.Ring, 257)), of(0, 9, make(api.Ring, 128), make(api.Ring, 129))},
		api.ErrInputRing: {of(0, 9, few), of(0, 9, square(4), few), of(0, 9, nil, square(4))},
		api.ErrInputFar:  {of(0, 9, far), of(0, 9, square(4), far), of(0, 9, ring(0, 0, 1, 0, math.MinInt, math.MaxInt))},
	}
}

// refuse asks that Decode answers that error.
func refuse(t *testing.T, why string, b []byte, err api.Errno) {
	t.Helper()
	if got := checkDecode(t, b); got != err {
		t.Fatalf("P14.4: Decode of %q %s answers %d and not %d", b, why, got, err)
	}
}

// TestDecodeJobs decodes jobs that may not be, with good states, and others: that is told first.
func TestDecodeJobs(t *testing.T) {
	l := made(t, of(0, 9, square(4)))
	l.Spend(9)
	for err, jobs := range wrongs() {
		for _, j := range jobs {
			refuse(t, "for the job", Encode(j, l), err)
			refuse(t, "for the job", encoded(j, -1, rung.State{}), err)
			refuse(t, "for the job", encoded(j, math.MaxInt, rung.State{Phase: rung.Over}), err)
		}
	}
}

// TestDecodeStates decodes numbers of steps, and states, that may not be.
func TestDecodeStates(t *testing.T) {
	j := of(0, 9, square(4), ring(2, 2, 7, 3, 3, 8))
	most := ladder.Most(7, 9)
	l := made(t, j)
	for {
		s, steps := l.State(), l.Steps()
		for _, n := range []int{0, 1, steps + 1, most} {
			refuse(t, "for nothing", encoded(j, n, s), api.OK)
		}
		for _, n := range []int{-1, math.MinInt, most + 1, math.MaxInt} {
			refuse(t, "for its steps", encoded(j, n, s), api.ErrSaveState)
		}
		other := j
		other.Rung = s.K + 1
		refuse(t, "for its rung", encoded(other, steps, s), api.ErrSaveState)
		other = j
		other.Cap = 10
		refuse(t, "for its room", encoded(other, steps, s), api.ErrSaveState)
		for _, turn := range []func(s *rung.State){
			func(s *rung.State) { s.K = 29 },
			func(s *rung.State) { s.K = -1 },
			func(s *rung.State) { s.Room = 8 },
			func(s *rung.State) { s.Phase = 6 },
			func(s *rung.State) { s.Phase = math.MinInt },
			func(s *rung.State) { s.I += 1000 },
			func(s *rung.State) { s.J += 1000 },
			func(s *rung.State) { s.T = -1 },
			func(s *rung.State) { s.Found = append(s.Found, grid.Pixel{X: 50, Y: 50}) },
			func(s *rung.State) { s.Hot = append(s.Hot, grid.Pixel{X: 1 << 40}) },
		} {
			s := l.State()
			turn(&s)
			refuse(t, "for its state", encoded(j, steps, s), api.ErrSaveState)
		}
		if !l.Step() {
			break
		}
	}
	refuse(t, "for it is empty", encoded(j, 0, rung.State{}), api.ErrSaveState)
}

// TestDecodeOver decodes rungs that are over: such may be, and ladders not.
func TestDecodeOver(t *testing.T) {
	j := of(0, 4, ring(0, 0, 4, 4, 4, 0, 0, 4))
	r := rung.New(input.Edges(j), 0, 4)
	r.Run(1 << 40)
	if _, is := rung.Load(input.Edges(j), r.State()); !is || r.Phase() != rung.Over {
		t.Fatal("P12.7: it is at", r.State())
	}
	refuse(t, "for it is over", encoded(j, 5, r.State()), api.ErrSaveState)
}

// TestGreat encodes and decodes as many edges as there may be, with many pixels.
func TestGreat(t *testing.T) {
	var r api.Ring
	for i := range 128 {
		r = append(r, api.Point{X: i * 40, Y: i % 2 * 10}, api.Point{X: i * 40, Y: i%2*10 + 5})
	}
	j := of(0, 400, r)
	l := made(t, j)
	for range 12 {
		refuse(t, "for nothing", Encode(j, l), api.OK)
		l.Spend(14000)
	}
	if len(l.State().Chains) != 256 || len(l.State().Hot) < 200 {
		t.Error("it is at", l.State().Phase, len(l.State().Hot))
	}
}
