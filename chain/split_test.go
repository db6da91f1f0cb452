package chain

import (
	"math"
	"slices"
	"testing"

	"cobweb/grid"
)

// slowSplit puts together what Split should, one by one.
func slowSplit(c Chain, link int, at []grid.Pixel) (s Chain, is bool) {
	if len(at) == 0 {
		return Chain{}, false
	}
	found := false
	for i, d := range c.D {
		if i != link {
			s.D = append(s.D, d)
			continue
		}
		found = true
		s.D = append(s.D, d+1)
		for range at {
			s.D = append(s.D, d+1)
		}
	}
	ends := 0
	for i, q := range c.V {
		if i == link || i-1 == link {
			ends++
		}
		if i-1 == link {
			s.V = append(s.V, at...)
		}
		s.V = append(s.V, q)
	}
	if !found || ends != 2 {
		return Chain{}, false
	}
	return s, true
}

// checkSplit holds Split against slowSplit, and tells whether it told true.
func checkSplit(t *testing.T, c Chain, link int, at []grid.Pixel) bool {
	t.Helper()
	want, wantIs := slowSplit(c, link, at)
	got, is := Split(c, link, at)
	if is != wantIs || !slices.Equal(got.V, want.V) || !slices.Equal(got.D, want.D) {
		t.Error("P10.2: Split", c, link, at, "is", got, is, "not", want, wantIs)
	}
	return is
}

func TestSplitExample(t *testing.T) {
	c, is := Split(New(at(0, 0), at(4, 0)), 0, row(2, 1))
	if !is || !slices.Equal(c.V, row(0, 0, 2, 1, 4, 0)) || !slices.Equal(c.D, []int{2, 2}) {
		t.Error("P10.2: the example is", c, is)
	}
}

// TestSplitSizes splits chains of all numbers of vertices, links and pixels up to some, right or not, at all links.
func TestSplitSizes(t *testing.T) {
	v := row(1, 1, 2, 2, 3, 3, 4, 4, 5, 5, 6, 6)
	d := []int{10, 20, 30, 40, 50, 60}
	put := row(-1, 7, -2, 7, -3, 7, -4, 7)
	links := []int{-1, -2, 7, 8, 100, 1 << 32, 1 << 62, math.MaxInt - 1, math.MaxInt, math.MinInt, math.MinInt + 1}
	for i := range 7 {
		links = append(links, i)
	}
	were := 0
	for vertices := range len(v) + 1 {
		for depths := range len(d) + 1 {
			for pixels := range len(put) + 1 {
				for _, link := range links {
					if checkSplit(t, Chain{V: v[:vertices], D: d[:depths]}, link, put[:pixels]) {
						were++
					}
				}
			}
		}
	}
	// With 1 to 6 vertices there are 0, 6, 11, 15, 18, 20 links that have both, of all rows of 0 to 6 depths.
	if were != 4*(6+11+15+18+20) {
		t.Error("P10.2: so many were split:", were)
	}
}

// TestSplitRefused holds that nothing at all is told with a false.
func TestSplitRefused(t *testing.T) {
	c := Chain{V: row(0, 0, 4, 0, 8, 0), D: []int{1, 2}}
	for i, x := range []struct {
		c    Chain
		link int
		at   []grid.Pixel
	}{
		{c, -1, row(2, 0)},
		{c, 2, row(9, 0)},
		{c, 3, row(9, 0)},
		{c, 0, nil},
		{c, 1, []grid.Pixel{}},
		{Chain{V: c.V, D: c.D[:1]}, 1, row(6, 0)},
		{Chain{V: c.V[:2], D: c.D}, 1, row(6, 0)},
		{Chain{V: c.V[:1], D: c.D}, 0, row(6, 0)},
		{Chain{V: c.V, D: nil}, 0, row(6, 0)},
		{Chain{D: c.D}, 0, row(6, 0)},
		{Chain{}, 0, row(6, 0)},
		{Chain{}, math.MaxInt, row(6, 0)},
	} {
		if got, is := Split(x.c, x.link, x.at); is || got.V != nil || got.D != nil {
			t.Error("P10.2, R1: line", i, "is", got, is)
		}
	}
}

// TestSplitDepths splits links of all kinds of depths: one goes round, none is looked at.
func TestSplitDepths(t *testing.T) {
	for _, d := range []int{0, 1, -1, -2, 1 << 20, 1<<20 - 1, 1 << 32, math.MaxInt - 1, math.MinInt} {
		c := Chain{V: row(0, 0, 1, 1, 2, 2, 3, 3), D: []int{-7, d, d}}
		got, is := Split(c, 1, row(5, 5, 5, 5))
		if !is || !slices.Equal(got.D, []int{-7, d + 1, d + 1, d + 1, d}) {
			t.Error("P10.2: of depth", d, "it is", got, is)
		}
	}
	got, is := Split(Chain{V: row(0, 0, 1, 1), D: []int{math.MaxInt}}, 0, row(0, 1))
	if !is || !slices.Equal(got.D, []int{math.MinInt, math.MinInt}) {
		t.Error("P10.2: the greatest depth, and one, is", got, is)
	}
}

// TestSplitAny splits chains of any vertices, at any pixels: those of the link, the same one twice, ones that are not In.
func TestSplitAny(t *testing.T) {
	all := row(0, 0, 4, 0, math.MaxInt, math.MinInt)
	for n := 1; n <= 3; n++ {
		eachRow(all, n, func(v []grid.Pixel) {
			for m := 1; m <= 3; m++ {
				eachRow(all, m, func(put []grid.Pixel) {
					for link := range n {
						checkSplit(t, through(v...), link, put)
					}
				})
			}
		})
	}
}

// TestSplitMixed splits one chain again and again, at many pixels, here and there.
func TestSplitMixed(t *testing.T) {
	next := mixer()
	upTo := below(next)
	for range 200 {
		c := New(at(0, 0), at(1, 1))
		for range 30 {
			var put []grid.Pixel
			for range upTo(6) {
				put = append(put, at(next(), next()))
			}
			link := upTo(len(c.D)+2) - 1
			if checkSplit(t, c, link, put) {
				c, _ = Split(c, link, put)
			}
		}
		if len(c.V) != len(c.D)+1 || len(c.V) < 20 {
			t.Fatal("P10.2: it came to", len(c.V), "vertices and", len(c.D), "links")
		}
	}
}
