package order

import (
	"math"
	"slices"
	"testing"
)

// checkUnique holds Unique of l against what is wanted.
func checkUnique[T comparable](t *testing.T, l, want []T, beside, other T) {
	t.Helper()
	k := keep(l, beside)
	got := Unique(k.row())
	if !slices.Equal(got, want) {
		t.Error("P7.2: Unique of", l, "is", got, "not", want)
	}
	if !k.stayed(got, other) {
		t.Error("P7.2: Unique of", l, "changed it, or told what shares its array")
	}
}

func TestUniqueOfNumbers(t *testing.T) {
	for _, x := range []struct{ l, want []int }{
		{nil, nil}, {[]int{}, nil}, {[]int{4}, []int{4}}, {[]int{0}, []int{0}}, {[]int{4, 4}, []int{4}},
		{[]int{0, 0, 0}, []int{0}}, {[]int{1, 2, 3}, []int{1, 2, 3}}, {[]int{1, 2, 1, 2, 1}, []int{1, 2, 1, 2, 1}},
		{[]int{1, 1, 1, 2, 3}, []int{1, 2, 3}}, {[]int{1, 2, 2, 2, 3}, []int{1, 2, 3}}, {[]int{1, 2, 3, 3, 3}, []int{1, 2, 3}},
		{[]int{1, 1, 2, 2, 1, 1}, []int{1, 2, 1}}, {[]int{3, 3, 2, 1, 1}, []int{3, 2, 1}},
		{[]int{0, 1, 1}, []int{0, 1}}, {[]int{math.MinInt, math.MinInt, math.MaxInt}, []int{math.MinInt, math.MaxInt}},
	} {
		checkUnique(t, x.l, x.want, -9, -7)
	}
	// What stands ahead of the row in its array counts for nothing.
	checkUnique(t, []int{-9, -9, 1}, []int{-9, 1}, -9, -7)
}

func TestUniqueOfStructs(t *testing.T) {
	a, b, c := thing{1, 2, 3}, thing{1, 2, 4}, thing{1, 0, 3}
	checkUnique(t, []thing{a, b, c, a}, []thing{a, b, c, a}, mixed(-9), mixed(-7))
	checkUnique(t, []thing{a, a, b, b, b, c, a, a}, []thing{a, b, c, a}, mixed(-9), mixed(-7))
	checkUnique(t, []thing{{}, {}, a}, []thing{{}, a}, mixed(-9), mixed(-7))
	checkUnique(t, []string{"", "", "a", "b", "b"}, []string{"", "a", "b"}, "-", "+")
}

// TestUniqueOfAllShortRows goes through all rows of up to 8 numbers from 0 to 2.
func TestUniqueOfAllShortRows(t *testing.T) {
	for n := range 9 {
		rows(n, 3, func(keys []int) {
			checkUnique(t, keys, slices.Compact(slices.Clone(keys)), -9, -7)
		})
	}
}

// TestUniqueOfWhatCannotBeCompared: lists in an interface are not the same, and nothing panics.
func TestUniqueOfWhatCannotBeCompared(t *testing.T) {
	got := Unique([]any{1, 1, []int{2}, []int{2}, nil, nil, math.NaN(), math.NaN(), "a", 1})
	if len(got) != 8 || got[0] != 1 || got[3] != nil || got[6] != "a" || got[7] != 1 {
		t.Error("P7.2: Unique of mixed things is", got)
	}
}
