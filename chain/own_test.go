package chain

import (
	"slices"
	"testing"

	"cobweb/grid"
)

// spare tells l with memory behind it, and all of that memory, in which more stands.
func spare[T any](l []T, more ...T) (front, whole []T) {
	whole = append(slices.Clone(l), more...)
	return whole[:len(l)], whole
}

// spoil writes into all of l, and of the memory behind it.
func spoil[T any](l []T, v T) {
	l = append(l, v)
	l = l[:cap(l)]
	for i := range l {
		l[i] = v
	}
}

// spoilChain writes into all that c has.
func spoilChain(c Chain) {
	spoil(c.V, at(-77, 77))
	spoil(c.D, -777)
}

// TestSplitOwn splits chains in whose memory more stands behind them, at pixels that stand in such memory too: all of
// it stays, and what is told is told anew, however it is written into.
func TestSplitOwn(t *testing.T) {
	for vertices := 2; vertices <= 6; vertices++ {
		for pixels := 1; pixels <= 5; pixels++ {
			for link := range vertices - 1 {
				v, wholeV := spare(row(0, 0, 1, 1, 2, 2, 3, 3, 4, 4, 5, 5)[:vertices], square(6, 9)...)
				d, wholeD := spare([]int{1, 2, 3, 4, 5}[:vertices-1], 6, 7, 8, 9, 10, 11, 12, 13, 14)
				put, wholePut := spare(row(9, 1, 9, 2, 9, 3, 9, 4, 9, 5)[:pixels], square(3, 5)...)
				wereV, wereD, werePut := slices.Clone(wholeV), slices.Clone(wholeD), slices.Clone(wholePut)
				c := Chain{V: v, D: d}
				first, _ := Split(c, link, put)
				second, _ := Split(c, link, put)
				wasV, wasD := slices.Clone(second.V), slices.Clone(second.D)
				spoilChain(first)
				if !slices.Equal(wholeV, wereV) || !slices.Equal(wholeD, wereD) || !slices.Equal(wholePut, werePut) {
					t.Fatal("P10.2, R5: Split, or what was written, changed what was handed in:", wholeV, wholeD, wholePut)
				}
				if !slices.Equal(second.V, wasV) || !slices.Equal(second.D, wasD) {
					t.Fatal("P10.2, R6: what was written changed what was told:", second)
				}
				spoil(wholeV, at(-1, -1))
				spoil(wholeD, -1)
				spoil(wholePut, at(-1, -1))
				if !slices.Equal(second.V, wasV) || !slices.Equal(second.D, wasD) {
					t.Fatal("P10.2, R6: what is told keeps what was handed in:", second)
				}
			}
		}
	}
}

// TestSplitItself splits chains at vertices of their own, as they stand in their memory, and behind them.
func TestSplitItself(t *testing.T) {
	for from := range 6 {
		for to := from + 1; to <= 6; to++ {
			for link := range 3 {
				v, whole := spare(row(0, 0, 1, 1, 2, 2, 3, 3), at(4, 4), at(5, 5))
				c := Chain{V: v, D: []int{1, 2, 3}}
				want, _ := slowSplit(Chain{V: slices.Clone(v), D: []int{1, 2, 3}}, link, slices.Clone(whole[from:to]))
				got, is := Split(c, link, whole[from:to])
				if !is || !Same(got, want) || !slices.Equal(whole, row(0, 0, 1, 1, 2, 2, 3, 3, 4, 4, 5, 5)) {
					t.Error("P10.2, R5: Split", link, "at its own", from, to, "is", got, is, "and it is", whole)
				}
			}
		}
	}
}

// TestSplitTwice splits what was told in two ways: neither changes the other one.
func TestSplitTwice(t *testing.T) {
	c, _ := Split(New(at(0, 0), at(9, 9)), 0, row(3, 3))
	was := Chain{V: slices.Clone(c.V), D: slices.Clone(c.D)}
	first, _ := Split(c, 1, row(5, 5))
	second, _ := Split(c, 1, row(6, 7))
	third, _ := Split(c, 0, row(1, 2))
	for i, x := range []struct {
		c    Chain
		v, d []int
	}{
		{c, []int{0, 0, 3, 3, 9, 9}, []int{2, 2}},
		{first, []int{0, 0, 3, 3, 5, 5, 9, 9}, []int{2, 3, 3}},
		{second, []int{0, 0, 3, 3, 6, 7, 9, 9}, []int{2, 3, 3}},
		{third, []int{0, 0, 1, 2, 3, 3, 9, 9}, []int{3, 3, 2}},
	} {
		if !slices.Equal(x.c.V, row(x.v...)) || !slices.Equal(x.c.D, x.d) {
			t.Error("P10.2, R6: chain", i, "is", x.c)
		}
	}
	if !Same(c, was) {
		t.Error("P10.2, R5: what was split is", c)
	}
}

func TestCloneOwn(t *testing.T) {
	for _, c := range few() {
		v, wholeV := spare(c.V, square(6, 9)...)
		d, wholeD := spare(c.D, 6, 7, 8)
		wereV, wereD := slices.Clone(wholeV), slices.Clone(wholeD)
		first, second := Clone(Chain{V: v, D: d}), Clone(Chain{V: v, D: d})
		spoilChain(first)
		if !slices.Equal(wholeV, wereV) || !slices.Equal(wholeD, wereD) {
			t.Error("P10.1, R6: what was written into a clone changed", wholeV, wholeD)
		}
		spoil(wholeV, at(-1, -1))
		spoil(wholeD, -1)
		if !Same(second, c) {
			t.Error("P10.1, R6: a clone of", c, "became", second)
		}
	}
}

func TestNewOwn(t *testing.T) {
	for _, q := range row(0, 0, 1, 1) {
		first, second := New(at(0, 0), q), New(at(0, 0), q)
		was := Chain{V: slices.Clone(second.V), D: slices.Clone(second.D)}
		spoilChain(first)
		if !Same(second, was) || !Same(New(at(0, 0), q), was) {
			t.Error("P10.1, R6: New became", second)
		}
	}
}

// TestAsked asks all that is only asked: what is handed in, and what stands behind it, stays.
func TestAsked(t *testing.T) {
	for _, c := range few() {
		v, wholeV := spare(c.V, square(6, 9)...)
		d, wholeD := spare(c.D, 6, 7, 8)
		wereV, wereD := slices.Clone(wholeV), slices.Clone(wholeD)
		e := Chain{V: v, D: d}
		for range 2 {
			Right(e, 0)
			Depth(e)
			Same(e, e)
			Same(e, Chain{V: []grid.Pixel{at(0, 0)}})
			Close(e, point(0, 0), point(1, 1), 0, 9)
		}
		if !slices.Equal(wholeV, wereV) || !slices.Equal(wholeD, wereD) {
			t.Error("P10.1, P10.3, R5: asking changed", wholeV, wholeD)
		}
	}
}
