package input

import (
	"math"
	"testing"

	"cobweb/api"
)

// with tells a job that may be, but for what change makes of it.
func with(change func(j *Job)) Job {
	j := good()
	change(&j)
	return j
}

func TestCheckGood(t *testing.T) {
	if e := Check(good()); e != api.OK {
		t.Error("P11.1: a job that may be answers", e)
	}
	if e := Check(Job{}); e != api.ErrInputCap {
		t.Error("P11.1: the zero job answers", e)
	}
}

// TestCheckNumbers sets each number to what is just in, just beyond, and as far as it goes.
func TestCheckNumbers(t *testing.T) {
	for _, x := range []struct {
		name      string
		low, high int
		set       func(j *Job, n int)
		wrong     api.Errno
	}{
		{"Op", Union, Xor, func(j *Job, n int) { j.Op = n }, 110},
		{"Fill", EvenOdd, NonZero, func(j *Job, n int) { j.Fill = n }, 111},
		{"Rung", 0, 28, func(j *Job, n int) { j.Rung = n }, 112},
		{"Cap", 1, 1024, func(j *Job, n int) { j.Cap = n }, 113},
	} {
		for _, n := range []int{math.MinInt, math.MinInt + 1, -1 << 32, -1 << 31, -256, -2, -1, 0, 1, 2, 3, 4, 5, 27, 28, 29, 1023, 1024, 1025, 1 << 31, 1 << 32, 1<<32 + 1, math.MaxInt} {
			want := api.OK
			if n < x.low || n > x.high {
				want = x.wrong
			}
			if e := Check(with(func(j *Job) { x.set(j, n) })); e != want {
				t.Error("P11.1:", x.name, n, "answers", e, "and not", want)
			}
		}
	}
	if Union != 0 || Inter != 1 || Diff != 2 || Xor != 3 || EvenOdd != 0 || NonZero != 1 {
		t.Error("P11.1: operations, and rules, are counted from 0 on:", Union, Inter, Diff, Xor, EvenOdd, NonZero)
	}
}

// TestCheckMany tries how many rings, and points, there are.
func TestCheckMany(t *testing.T) {
	none := api.Ring{}
	for i, x := range []struct {
		a, b []api.Ring
		want api.Errno
	}{
		{nil, nil, api.ErrInputMany},
		{rings(), rings(), api.ErrInputMany},
		{rings(none), nil, api.ErrInputMany},
		{nil, rings(nil), api.ErrInputMany},
		{rings(none, nil, none), rings(none, none), api.ErrInputMany},
		{rings(some(1)), nil, api.ErrInputRing},
		{nil, rings(some(1)), api.ErrInputRing},
		{rings(some(2)), nil, api.ErrInputRing},
		{nil, rings(some(2)), api.ErrInputRing},
		{rings(some(3)), nil, api.OK},
		{nil, rings(some(3)), api.OK},
		{rings(some(3)), rings(some(3)), api.OK},
		{rings(some(255)), nil, api.OK},
		{rings(some(256)), nil, api.OK},
		{rings(some(257)), nil, api.ErrInputMany},
		{nil, rings(some(256)), api.OK},
		{nil, rings(some(257)), api.ErrInputMany},
		{rings(some(128)), rings(some(128)), api.OK},
		{rings(some(128)), rings(some(129)), api.ErrInputMany},
		{rings(some(129)), rings(some(128)), api.ErrInputMany},
		{rings(some(253)), rings(some(3)), api.OK},
		{rings(some(253)), rings(some(4)), api.ErrInputMany},
		{rings(some(3), some(100)), rings(some(50), some(103)), api.OK},
		{rings(some(3), some(100)), rings(some(50), some(104)), api.ErrInputMany},
		{rings(some(100000)), nil, api.ErrInputMany},
		{rings(none), rings(some(3)), api.ErrInputRing},
		{rings(some(3)), rings(none), api.ErrInputRing},
		{rings(some(3), nil), nil, api.ErrInputRing},
		{rings(some(256), none), nil, api.ErrInputRing},
		{rings(some(257), none), nil, api.ErrInputMany},
		{rings(some(254), some(2)), nil, api.ErrInputRing},
		{rings(some(255), some(2)), nil, api.ErrInputMany},
	} {
		j := good()
		j.A, j.B = x.a, x.b
		if e := Check(j); e != x.want {
			t.Error("P11.1: rings", i, "answer", e, "and not", x.want)
		}
	}
}

// TestCheckManyRings has as many rings as there may be, and one more.
func TestCheckManyRings(t *testing.T) {
	var l []api.Ring
	for range 85 {
		l = append(l, some(3))
	}
	j := good()
	j.A, j.B = l[:40], l[40:]
	if e := Check(j); e != api.OK {
		t.Error("P11.1: 85 rings of three points answer", e)
	}
	j.A = append(apart(l[:40]), some(3))
	if e := Check(j); e != api.ErrInputMany {
		t.Error("P11.1: 86 rings of three points answer", e)
	}
	j.A, j.B = make([]api.Ring, 100000), rings(some(3))
	if e := Check(j); e != api.ErrInputRing {
		t.Error("P11.1: many rings of no point, and one of three, answer", e)
	}
	j.B = nil
	if e := Check(j); e != api.ErrInputMany {
		t.Error("P11.1: many rings of no point answer", e)
	}
}

// TestCheckFar sets each number of each point of each ring to what is just in, and to what is beyond.
func TestCheckFar(t *testing.T) {
	start := Job{A: rings(some(3), some(5), some(4)), B: rings(some(4), some(3)), Cap: 1}
	for area := range 2 {
		for r := range start.areas()[area] {
			for p := range start.areas()[area][r] {
				for _, n := range []int{api.MaxCoord, -api.MaxCoord, api.MaxCoord - 1, api.MaxCoord + 1, -api.MaxCoord - 1, 1 << 27, -1 << 27, 1 << 32, -1 << 32, 1 << 58, 1 << 62, math.MaxInt, math.MinInt, math.MinInt + 1} {
					want := api.OK
					if n < -1<<26 || n > 1<<26 {
						want = api.ErrInputFar
					}
					for i, to := range []api.Point{at(n, 1), at(1, n), at(n, n), at(n, 1<<26), at(-1<<26, n)} {
						j := start
						j.A, j.B = apart(j.A), apart(j.B)
						j.areas()[area][r][p] = to
						if e := Check(j); e != want {
							t.Fatal("P11.1: number", n, "of point", p, "of ring", r, "of area", area, "answers", e, "in", i)
						}
					}
				}
			}
		}
	}
}

// TestCheckFirst has several faults at once: which of them is told.
func TestCheckFirst(t *testing.T) {
	far := ring(0, 0, 1<<26+1, 0, 3, 3)
	few := ring(0, 0, 1, 1)
	farFew := ring(0, -1<<26-1)
	faults := []struct {
		make func(j *Job)
		want api.Errno
	}{
		{func(j *Job) { j.Op = 4 }, api.ErrInputOp},
		{func(j *Job) { j.Fill = -1 }, api.ErrInputFill},
		{func(j *Job) { j.Rung = 29 }, api.ErrInputRung},
		{func(j *Job) { j.Cap = 0 }, api.ErrInputCap},
		{func(j *Job) { j.A = rings(few, far, some(257)) }, api.ErrInputMany},
		{func(j *Job) { j.B = rings(some(3), few) }, api.ErrInputRing},
	}
	for set := 1; set < 1<<len(faults); set++ {
		j, want := good(), api.OK
		for i := len(faults) - 1; i >= 0; i-- {
			if set>>i&1 == 1 {
				faults[i].make(&j)
				want = faults[i].want
			}
		}
		if e := Check(j); e != want {
			t.Errorf("P11.1: of faults %b the answer is %d, and not %d", set, e, want)
		}
	}
	for i, x := range []struct {
		a, b []api.Ring
		want api.Errno
	}{
		{rings(far, few), nil, api.ErrInputFar},
		{rings(few, far), nil, api.ErrInputRing},
		{rings(far), rings(few), api.ErrInputFar},
		{rings(few), rings(far), api.ErrInputRing},
		{nil, rings(far, few), api.ErrInputFar},
		{nil, rings(few, far), api.ErrInputRing},
		{rings(some(3), far, nil), rings(few), api.ErrInputFar},
		{rings(some(3), nil, far), rings(few), api.ErrInputRing},
		{rings(some(3)), rings(far, nil), api.ErrInputFar},
		{rings(farFew), nil, api.ErrInputRing},
		{rings(some(3)), rings(some(4), farFew, far), api.ErrInputRing},
		{rings(far, some(254)), nil, api.ErrInputMany},
		{rings(farFew, some(256)), nil, api.ErrInputMany},
	} {
		j := good()
		j.A, j.B = x.a, x.b
		if e := Check(j); e != x.want {
			t.Error("P11.1: rings", i, "answer", e, "and not", x.want)
		}
	}
}

// TestCheckAny has rings that cross themselves, and edges that are one point: they may be.
func TestCheckAny(t *testing.T) {
	for i, r := range []api.Ring{
		ring(0, 0, 4, 4, 4, 0, 0, 4),
		ring(1, 1, 1, 1, 1, 1),
		ring(0, 0, 5, 0, 0, 0),
		ring(0, 0, 0, 0, 3, 1),
		ring(-1<<26, -1<<26, 1<<26, -1<<26, 1<<26, 1<<26, -1<<26, 1<<26),
	} {
		for _, j := range []Job{{A: rings(r), Cap: 1}, {B: rings(r), Cap: 1024, Rung: 28, Op: Xor, Fill: NonZero}, {A: rings(r, r), B: rings(r), Cap: 7}} {
			if e := Check(j); e != api.OK {
				t.Error("P11.1: ring", i, "answers", e)
			}
		}
	}
}
