package near

import (
	"slices"
	"testing"

	"cobweb/grid"
)

// many is more pixels than any row starts with room for.
var many = square(-3, 3)

// spoil writes into all of l, and of the room behind it.
func spoil(l []Entry[int]) {
	l = l[:cap(l)]
	for i := range l {
		l[i] = Entry[int]{Q: at(-77, 77), V: -7777}
	}
}

// TestTold tells what is told of indices of every length, and puts more behind that, ahead of all, between and as new
// values.
func TestTold(t *testing.T) {
	for n := range len(many) + 1 {
		x, s := made(many[:n]...)
		all, in := x.All(), x.In(at(-9, -9), at(9, 9))
		for i, q := range slices.Concat(many, []grid.Pixel{at(-9, 0), at(9, 0), at(0, 9)}) {
			x.Put(q, 1000+i)
		}
		if want := s.all(); !slices.Equal(all, want) || !slices.Equal(in, want) {
			t.Fatal("P8.1, R6: what was told of", n, "changed by Put:", all, in)
		}
	}
}

// TestWritten writes into what is told of indices of every length; what was told else, and the index, stay.
func TestWritten(t *testing.T) {
	for n := range len(many) + 1 {
		x, s := made(many[:n]...)
		for _, tell := range []func() []Entry[int]{
			x.All,
			func() []Entry[int] { return x.In(at(-9, -9), at(9, 9)) },
			func() []Entry[int] { return x.In(at(-1, -9), at(9, 1)) },
		} {
			spoil(tell())
			first, second := tell(), tell()
			want := slices.Clone(second)
			spoil(first)
			if !slices.Equal(second, want) || !holds(x, s, nil) {
				t.Fatal("P8.1, R6: of", n, "the index changed by what was written into what it told:", x.All())
			}
		}
	}
}

// TestCopies puts to an index behind its being copied, to copies, and to copies of copies.
func TestCopies(t *testing.T) {
	more := slices.Concat(many, []grid.Pixel{at(-9, 0), at(9, 0), at(0, 9)})
	for n := range len(many) + 1 {
		x, s := made(many[:n]...)
		y := x.Copy()
		z, w := y.Copy(), x.Copy()
		r, u, v := slices.Clone(s), slices.Clone(s), slices.Clone(s)
		if !holds(&y, s, more) || !holds(&z, s, more) || !holds(x, s, more) {
			t.Fatal("P8.1: the copy of", n, "is", y.All())
		}
		for i, q := range more {
			for j, to := range []struct {
				x *Index[int]
				s *slow
			}{{&y, &r}, {x, &s}, {&z, &u}} {
				if to.x.Put(q, 1000*j+i) != to.s.put(q, 1000*j+i) {
					t.Fatal("P8.1: Put of", q, "to copy", j, "of", n)
				}
			}
		}
		if !holds(&y, r, more) || !holds(x, s, more) || !holds(&z, u, more) || !holds(&w, v, more) {
			t.Fatal("P8.1, R6: copies of", n, "changed one another:", x.All(), y.All(), z.All(), w.All())
		}
		spoil(y.All())
		if !holds(&y, r, nil) || !holds(x, s, nil) {
			t.Fatal("P8.1, R6: copies of", n, "changed by what was written into what one told")
		}
	}
}

// TestSame asks twice for all, which changes nothing.
func TestSame(t *testing.T) {
	x, s := made(many...)
	for range 2 {
		x.Copy()
		if l := x.In(at(-1, -2), at(2, 1)); !slices.Equal(l, s.in(at(-1, -2), at(2, 1))) || !holds(x, s, square(-5, 5)) {
			t.Error("P8.1, R7: asked again, it tells", l, x.All())
		}
	}
}
