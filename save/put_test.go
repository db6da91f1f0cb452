package save

import (
	"math"
	"math/big"
	"slices"
	"strings"
	"testing"
)

// checkThereAndBack puts numbers, and takes them.
func checkThereAndBack(t *testing.T, l []int) {
	t.Helper()
	b := Put(l)
	if want := slowPut(l); string(b) != want {
		t.Fatalf("P14.1: Put of %d is %q and not %q", l, b, want)
	}
	if got, is := Take(b); !is || !slices.Equal(got, l) {
		t.Fatalf("P14.1: Take of %q is %d %t and not %d", b, got, is, l)
	}
}

// checkTake holds Take of a text against taking it slowly.
func checkTake(t *testing.T, text string) bool {
	t.Helper()
	want, wantIs := slowTake([]byte(text))
	got, is := Take([]byte(text))
	if is != wantIs || !slices.Equal(got, want) || !is && len(got) > 0 {
		t.Fatalf("P14.1: Take of %q is %d %t and not %d %t", text, got, is, want, wantIs)
	}
	if is && string(Put(got)) != text {
		t.Fatalf("P14.1: Take of %q is %d, of which Put is %q", text, got, Put(got))
	}
	return is
}

// TestPut is the chapter's example, and others by hand.
func TestPut(t *testing.T) {
	for _, x := range []struct {
		l    []int
		want string
	}{
		{[]int{3, -20, 0}, "3 -20 0"},
		{nil, ""},
		{[]int{}, ""},
		{[]int{0}, "0"},
		{[]int{-1}, "-1"},
		{[]int{0, 0}, "0 0"},
		{[]int{math.MaxInt}, "9223372036854775807"},
		{[]int{math.MinInt, 100}, "-9223372036854775808 100"},
	} {
		if b := Put(x.l); string(b) != x.want {
			t.Errorf("P14.1: Put of %d is %q and not %q", x.l, b, x.want)
		}
		if l, is := Take([]byte(x.want)); !is || !slices.Equal(l, x.l) {
			t.Errorf("P14.1: Take of %q is %d %t", x.want, l, is)
		}
	}
	if l, is := Take(nil); !is || len(l) > 0 {
		t.Error("P14.1: Take of no bytes is", l, is)
	}
}

// TestThereAndBack puts and takes numbers of all sizes, alone and in rows.
func TestThereAndBack(t *testing.T) {
	all := edgeNumbers()
	for i, n := range all {
		checkThereAndBack(t, []int{n})
		checkThereAndBack(t, []int{n, all[(i*31+7)%len(all)], -n})
	}
	checkThereAndBack(t, all)
	next := mixer()
	upTo := below(next)
	for range 5000 {
		var l []int
		for range upTo(12) {
			l = append(l, next())
		}
		checkThereAndBack(t, l)
	}
	var long []int
	for range 200000 {
		long = append(long, next())
	}
	checkThereAndBack(t, long)
}

// TestTakeWrong takes bytes that are no row of numbers.
func TestTakeWrong(t *testing.T) {
	for _, text := range []string{
		" ", "  ", "-", "+", "- ", "--", "-0", "00", "01", "-01", "007", "+1", "+0", "--1", "1-", "1-1", "-1-", "- 1", "1 -", "0 -0", "-0 0",
		" 1", "1 ", "1  2", " 1 2", "1 2 ", "1 02", "01 2", "1 -02", "1\t2", "1\n2", "1\n", "\n1", "1\r\n", "1\x002", "\x00", "1,2", "1, 2",
		"1.", "1.0", ".1", "1e3", "1E3", "0x1", "0b1", "0o7", "1_000", "_1", "1_", "a", "1a", "inf", "NaN", "true", "nil",
		"\u0661", "1\u00a02", "\u22121", "\xff", "1\xff", "9223372036854775808", "-9223372036854775809", "1 9223372036854775808", "9223372036854775808 1",
		"18446744073709551615", "18446744073709551616", "18446744073709551617", "-18446744073709551615", "-18446744073709551616", "99999999999999999999",
		"100000000000000000000", "340282366920938463463374607431768211457", strings.Repeat("9", 1000), "-" + strings.Repeat("1", 5000),
		"1" + strings.Repeat("0", 64), strings.Repeat("0", 1000), strings.Repeat("0", 30) + "1", strings.Repeat(" ", 1000), strings.Repeat("-", 1000), strings.Repeat("1 ", 1000),
	} {
		if l, is := Take([]byte(text)); is || len(l) > 0 {
			t.Errorf("P14.1: Take of %.50q is %d %t", text, l, is)
		}
		checkTake(t, text)
		checkTake(t, "5 "+text)
		checkTake(t, text+" 5")
	}
}

// TestTakeShort takes all short rows of bytes of which numbers are made, and of some others.
func TestTakeShort(t *testing.T) {
	taken := 0
	var goOn func(text string)
	goOn = func(text string) {
		if checkTake(t, text) {
			taken++
		}
		if len(text) < 6 {
			for _, c := range []byte("01- +7") {
				goOn(text + string(c))
			}
		}
	}
	goOn("")
	if taken < 1000 {
		t.Error("just so many were rows of numbers:", taken)
	}
}

// TestTakeBytes sets each byte into good rows, at each place, and in the place of each byte.
func TestTakeBytes(t *testing.T) {
	for _, text := range []string{"12 -3 0", "0", "-1", "9223372036854775807 5", "-9223372036854775808"} {
		for i := range len(text) + 1 {
			for c := range 256 {
				one := string([]byte{byte(c)})
				checkTake(t, text[:i]+one+text[i:])
				if i < len(text) {
					checkTake(t, text[:i]+one+text[i+1:])
				}
			}
			checkTake(t, text[:i])
			checkTake(t, text[i:])
			if i < len(text) {
				checkTake(t, text[:i]+text[i+1:])
			}
		}
	}
}

// TestTakeGreat takes numbers around those that int holds, and those that come to such if they go round.
func TestTakeGreat(t *testing.T) {
	for bits := uint(60); bits < 200; bits++ {
		for off := int64(-3); off <= 3; off++ {
			n := new(big.Int).Lsh(big.NewInt(1), bits)
			n.Add(n, big.NewInt(off))
			for _, text := range []string{n.String(), new(big.Int).Neg(n).String()} {
				checkTake(t, text)
				checkTake(t, "1 "+text+" 2")
			}
		}
	}
}
