package input

import (
	"math"
	"testing"
)

// times tells how often something may be gone around, some of them as many as there are numbers.
func times() []int {
	return []int{math.MinInt, math.MinInt + 1, -1 << 32, -1<<32 - 1, -256, -255, -3, -2, -1, 0, 1, 2, 3, 4, 255, 256, 1 << 32, 1<<32 + 1, math.MaxInt - 1, math.MaxInt}
}

// noOnes tells numbers that are no operation and no rule.
func noOnes() []int {
	return []int{math.MinInt, -1 << 32, -2, -1, 4, 5, 1 << 32, 1<<32 + 1, math.MaxInt}
}

func TestFills(t *testing.T) {
	for _, n := range times() {
		if Fills(EvenOdd, n) != (n&1 == 1) {
			t.Error("P11.4: gone around", n, "times, by EvenOdd it is", Fills(EvenOdd, n))
		}
		if Fills(NonZero, n) != (n < 0 || n > 0) {
			t.Error("P11.4: gone around", n, "times, by NonZero it is", Fills(NonZero, n))
		}
		for _, fill := range append(noOnes(), 2, 3) {
			if Fills(fill, n) {
				t.Error("P11.4: by no rule", fill, "it is filled")
			}
		}
	}
}

// does tells, by operation, whether a place is in the result that is in neither, in B alone, in A alone, in both.
func does() [4][4]bool {
	return [4][4]bool{
		{false, true, true, true},
		{false, false, false, true},
		{false, false, true, false},
		{false, true, true, false},
	}
}

func TestDoes(t *testing.T) {
	for i := range 4 {
		a, b := i >= 2, i&1 == 1
		for op, want := range does() {
			if Does(op, a, b) != want[i] {
				t.Error("P11.4: Does", op, a, b, "is", !want[i])
			}
		}
		for _, op := range noOnes() {
			if Does(op, a, b) {
				t.Error("P11.4: no operation", op, "wants", a, b)
			}
		}
	}
}

func TestWants(t *testing.T) {
	for _, a := range times() {
		for _, b := range times() {
			for op, want := range does() {
				i := int(uint(a)&1)*2 + int(uint(b)&1)
				if Wants(Job{Op: op, Fill: EvenOdd}, a, b) != want[i] {
					t.Error("P11.4: Wants by EvenOdd", op, a, b, "is", !want[i])
				}
				i = 0
				if a != 0 {
					i = 2
				}
				if b != 0 {
					i++
				}
				if Wants(Job{Op: op, Fill: NonZero}, a, b) != want[i] {
					t.Error("P11.4: Wants by NonZero", op, a, b, "is", !want[i])
				}
			}
			for _, no := range noOnes() {
				if Wants(Job{Op: no}, a, b) || Wants(Job{Op: no, Fill: NonZero}, a, b) || Wants(Job{Fill: no}, a, b) || Wants(Job{Op: Xor, Fill: no}, a, b) {
					t.Error("P11.4: of no operation, or by no rule", no, "it is wanted", a, b)
				}
			}
		}
	}
}
