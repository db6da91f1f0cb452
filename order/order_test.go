package order

import (
	"math"
	"slices"
	"testing"
)

// thing is what is put in order: by key, or by key and then by second; number tells apart those that are alike.
type thing struct{ key, second, number int }

// byKey tells whether a comes ahead of b, by one field.
func byKey(a, b thing) bool { return a.key < b.key }

// byBoth tells whether a comes ahead of b, by key falling, of one key by second.
func byBoth(a, b thing) bool { return a.key > b.key || a.key == b.key && a.second < b.second }

// below is the order of whole numbers.
func below(a, b int) bool { return a < b }

// things tells things with these keys, each with the number of its place, from first on.
func things(first int, keys ...int) (l []thing) {
	for i, k := range keys {
		l = append(l, thing{key: k, second: i % 2, number: first + i})
	}
	return l
}

// rows gives every row of n keys below most.
func rows(n, most int, see func(keys []int)) {
	keys := make([]int, n)
	for {
		see(keys)
		i := 0
		for ; i < n && keys[i] == most-1; i++ {
			keys[i] = 0
		}
		if i == n {
			return
		}
		keys[i]++
	}
}

// slowSort tells l in order: each goes behind all but those that it comes ahead of.
func slowSort(l []thing, less func(a, b thing) bool) (done []thing) {
	for _, v := range l {
		i := len(done)
		for i > 0 && less(v, done[i-1]) {
			i--
		}
		done = slices.Insert(done, i, v)
	}
	return done
}

// kept is a row in the midst of an array of its own, that tells whether it, and what stands around it, stayed.
type kept[T comparable] struct{ array, was []T }

// keep lays l into an array, between things that stand ahead of it, and behind it.
func keep[T comparable](l []T, beside T) kept[T] {
	array := slices.Concat([]T{beside, beside}, l, []T{beside, beside, beside})
	return kept[T]{array: array, was: slices.Clone(array)}
}

// row tells the row, whose array goes on behind it.
func (k kept[T]) row() []T { return k.array[2 : len(k.array)-3] }

// stayed tells whether nothing was written to, not even when all of what was told is written to, and added to.
func (k kept[T]) stayed(told []T, other T) bool {
	if !slices.Equal(k.array, k.was) {
		return false
	}
	room := told[:cap(told)]
	for i := range room {
		room[i] = other
	}
	_ = append(told, other)
	return slices.Equal(k.array, k.was)
}

// mixed tells a thing that stands in no row.
func mixed(n int) thing { return thing{key: n, second: n, number: n} }

// checkSort holds Sort of l, and Is of it and of what comes out, against slowSort.
func checkSort(t *testing.T, l []thing, less func(a, b thing) bool) {
	t.Helper()
	k := keep(l, mixed(-9))
	want := slowSort(l, less)
	got := Sort(k.row(), less)
	if !slices.Equal(got, want) {
		t.Fatal("P7.1: Sort of", l, "is", got, "not", want)
	}
	if !Is(got, less) {
		t.Fatal("P7.1: Is of", got, "is false")
	}
	if is := Is(k.row(), less); is != slices.Equal(l, want) {
		t.Fatal("P7.1: Is of", l, "is", is)
	}
	if again := Sort(got, less); !slices.Equal(again, want) {
		t.Fatal("P7.1: Sort of", want, "is", again)
	}
	if !k.stayed(got, mixed(-7)) {
		t.Fatal("P7.1: Sort of", l, "changed it, or told what shares its array")
	}
}

// checkMerge holds Merge of a and b, that are in order, against slowSort of a with b behind it.
func checkMerge(t *testing.T, a, b []thing, less func(a, b thing) bool) {
	t.Helper()
	ka, kb := keep(a, mixed(-9)), keep(b, mixed(-8))
	want := slowSort(slices.Concat(a, b), less)
	got := Merge(ka.row(), kb.row(), less)
	if !slices.Equal(got, want) {
		t.Fatal("P7.1: Merge of", a, b, "is", got, "not", want)
	}
	if !ka.stayed(got, mixed(-7)) || !kb.stayed(got, mixed(-6)) {
		t.Fatal("P7.1: Merge of", a, b, "changed them, or told what shares an array of theirs")
	}
}

func TestSortOfNamedRows(t *testing.T) {
	for _, keys := range [][]int{
		{}, {1}, {1, 2}, {2, 1}, {1, 1}, {3, 1, 2}, {1, 2, 3, 4, 5, 6, 7}, {1, 2, 3, 4, 5, 6, 7, 8},
		{7, 6, 5, 4, 3, 2, 1}, {8, 7, 6, 5, 4, 3, 2, 1}, {5, 5, 5, 5, 5}, {5, 5, 5, 5, 5, 5, 5, 5},
		{2, 1, 2, 1, 2, 1, 2, 1, 2}, {1, 2, 1, 2, 1, 2, 1, 2}, {2, 2, 2, 1, 1, 1}, {1, 1, 1, 0, 1, 1, 1},
		{math.MaxInt, math.MinInt, 0, -1, math.MinInt, math.MaxInt},
	} {
		checkSort(t, things(0, keys...), byKey)
		checkSort(t, things(0, keys...), byBoth)
	}
	if got := Sort([]int{3, 1, 2}, below); !slices.Equal(got, []int{1, 2, 3}) {
		t.Error("P7.1: Sort of 3 1 2 is", got)
	}
	if got := Sort([]string{"b", "", "a"}, func(a, b string) bool { return a < b }); !slices.Equal(got, []string{"", "a", "b"}) {
		t.Error("P7.1: Sort of texts is", got)
	}
	if got := Sort(nil, below); len(got) != 0 {
		t.Error("P7.1: Sort of nothing is", got)
	}
}

// TestSortOfAllShortRows goes through all rows of up to 7 things with keys from 0 to 2.
func TestSortOfAllShortRows(t *testing.T) {
	for n := range 8 {
		rows(n, 3, func(keys []int) {
			checkSort(t, things(0, keys...), byKey)
			checkSort(t, things(0, keys...), byBoth)
		})
	}
}

func TestSortOfLongRows(t *testing.T) {
	next := mixer()
	for n := range 300 {
		l := make([]thing, n)
		for i := range l {
			l[i] = thing{key: next() % (1 + n/4), second: next() % 3, number: i}
		}
		checkSort(t, l, byKey)
		checkSort(t, l, byBoth)
	}
}

func TestIsOfNamedRows(t *testing.T) {
	for _, x := range []struct {
		l    []int
		want bool
	}{
		{nil, true}, {[]int{}, true}, {[]int{4}, true}, {[]int{1, 2}, true}, {[]int{2, 1}, false}, {[]int{2, 2}, true},
		{[]int{1, 2, 2, 3, 3, 3}, true}, {[]int{2, 1, 3, 4, 5}, false}, {[]int{1, 3, 2, 4, 5}, false},
		{[]int{1, 2, 3, 5, 4}, false}, {[]int{5, 4, 3, 2, 1}, false}, {[]int{math.MinInt, 0, math.MaxInt}, true},
	} {
		k := keep(x.l, -9)
		if got := Is(k.row(), below); got != x.want || !k.stayed(nil, 0) {
			t.Error("P7.1: Is of", x.l, "is", got)
		}
	}
}

func TestMergeOfNamedRows(t *testing.T) {
	for _, x := range [][2][]int{
		{{}, {}}, {{1}, {}}, {{}, {1}}, {{1, 2, 3}, {}}, {{}, {1, 2, 3}}, {{1}, {2}}, {{2}, {1}}, {{1}, {1}},
		{{1, 3, 5}, {2, 4, 6}}, {{2, 4, 6}, {1, 3, 5}}, {{1, 2, 3}, {4, 5}}, {{4, 5}, {1, 2, 3}},
		{{1, 1, 1}, {1, 1, 1, 1}}, {{1, 1, 2, 2}, {1, 1, 2, 2}}, {{0, 9}, {1, 2, 3, 4, 5}}, {{5}, {1, 2, 3, 4, 5, 6, 7, 8}},
	} {
		checkMerge(t, things(0, x[0]...), things(100, x[1]...), byKey)
	}
	if got := Merge(nil, nil, below); len(got) != 0 {
		t.Error("P7.1: Merge of nothing is", got)
	}
}

// TestMergeOfAllShortRows goes through all pairs of rows of up to 4 things in order, with keys from 0 to 2.
func TestMergeOfAllShortRows(t *testing.T) {
	for n := range 5 {
		for m := range 5 {
			rows(n, 3, func(keys []int) {
				a := slowSort(things(0, keys...), byKey)
				rows(m, 3, func(keys []int) {
					b := slowSort(things(100, keys...), byKey)
					checkMerge(t, a, b, byKey)
					checkMerge(t, slowSort(a, byBoth), slowSort(b, byBoth), byBoth)
				})
			})
		}
	}
}

// TestFunctionsThatAreNoOrder: what comes out is not told, but a call ends, and tells what there was, once each.
func TestFunctionsThatAreNoOrder(t *testing.T) {
	next := mixer()
	for _, less := range []func(a, b thing) bool{
		func(a, b thing) bool { return true }, func(a, b thing) bool { return false },
		func(a, b thing) bool { return a.key != b.key }, func(a, b thing) bool { return next()&1 == 0 },
	} {
		l := things(0, 3, 1, 2, 1, 3, 2, 1)
		for _, got := range [][]thing{Sort(l, less), Merge(l[:3], l[3:], less)} {
			if got = slowSort(got, func(a, b thing) bool { return a.number < b.number }); !slices.Equal(got, l) {
				t.Error("P7.1: of", l, "come", got)
			}
		}
		Is(l, less)
	}
}

// TestSortAsksLittle: halves are put in order, and taken together, so that no row takes too long.
func TestSortAsksLittle(t *testing.T) {
	asked := 0
	l := make([]int, 1<<12)
	for i := range l {
		l[i] = i * 2731 % len(l)
	}
	if got := Sort(l, func(a, b int) bool { asked++; return a < b }); !Is(got, below) || asked > 12*len(l) {
		t.Error("P7.1: Sort of", len(l), "asked its order", asked, "times")
	}
}
