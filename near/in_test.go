package near

import (
	"slices"
	"testing"

	"cobweb/grid"
)

// TestBoxes asks for all boxes with numbers from -4 to 4, those whose low is above their high too, of pixels between.
func TestBoxes(t *testing.T) {
	whole := square(-2, 2)
	for name, pixels := range map[string][]grid.Pixel{
		"none":      nil,
		"one":       {at(1, -1)},
		"a row":     {at(2, 0), at(-1, 0), at(0, 0), at(-2, 0), at(1, 0)},
		"a column":  {at(0, 2), at(0, -1), at(0, 0), at(0, -2), at(0, 1)},
		"a cross":   {at(0, 2), at(-2, -2), at(2, 2), at(-2, 2), at(2, -2), at(0, 0)},
		"a square":  whole,
		"a chequer": {whole[0], whole[2], whole[6], whole[8], whole[10], whole[12], whole[14], whole[18], whole[22], whole[24]},
	} {
		x, s := made(pixels...)
		for _, low := range square(-4, 4) {
			for _, high := range square(-4, 4) {
				if l := x.In(low, high); !slices.Equal(l, s.in(low, high)) {
					t.Fatal("P8.2:", name, "In", low, high, "tells", l)
				}
			}
		}
	}
}

func TestEdges(t *testing.T) {
	x, _ := made(at(3, 7), at(3, 5), at(6, 5), at(6, 7), at(4, 6), at(-3, 6), at(least, 6), at(most, 6), at(4, least), at(4, most))
	for _, c := range []struct {
		low, high grid.Pixel
		values    []int
	}{
		{at(3, 5), at(6, 7), []int{2, 1, 5, 3, 4}},
		{at(4, 5), at(6, 7), []int{5, 3, 4}},
		{at(3, 6), at(6, 7), []int{1, 5, 4}},
		{at(3, 5), at(5, 7), []int{2, 1, 5}},
		{at(3, 5), at(6, 6), []int{2, 5, 3}},
		{at(4, 6), at(4, 6), []int{5}},
		{at(4, 7), at(5, most-1), nil},
		{at(5, 6), at(5, 6), nil},
		{at(6, 7), at(3, 5), nil},
		{at(6, 5), at(3, 7), nil},
		{at(3, 7), at(6, 5), nil},
		{at(most, most), at(least, least), nil},
		{at(least, most), at(most, least), nil},
		{at(most, least), at(least, most), nil},
		{at(least, least), at(most, most), []int{7, 6, 2, 1, 9, 5, 10, 3, 4, 8}},
		{at(least+1, least+1), at(most-1, most-1), []int{6, 2, 1, 5, 3, 4}},
		{at(least, 6), at(most, 6), []int{7, 6, 5, 8}},
		{at(4, least), at(4, most), []int{9, 5, 10}},
		{at(4, least+1), at(4, most-1), []int{5}},
		{at(4, most), at(4, most), []int{10}},
		{at(4, least), at(4, least), []int{9}},
		{at(least, 6), at(least, 6), []int{7}},
		{at(most, 6), at(most, 6), []int{8}},
		{at(most, least), at(most, most), []int{8}},
		{at(least, least), at(least, most), []int{7}},
		{at(-3, -3), at(0, 6), []int{6}},
		{at(-2, -3), at(0, 6), nil},
	} {
		var values []int
		for _, e := range x.In(c.low, c.high) {
			values = append(values, e.V)
			if v, is := x.Get(e.Q); v != e.V || !is {
				t.Error("P8.2: In", c.low, c.high, "tells", e)
			}
		}
		if !slices.Equal(values, c.values) {
			t.Error("P8.2: In", c.low, c.high, "tells values", values)
		}
	}
}
