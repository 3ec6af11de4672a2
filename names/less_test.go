package names

import (
	"math/rand"
	"slices"
	"testing"
)

// P12.1, Less.

// rises fails the test where Less of two of l is not what their places tell.
func rises(t *testing.T, l ...string) {
	t.Helper()
	for i, a := range l {
		for j, b := range l {
			less(t, a, b, i < j)
		}
	}
}

// TestLessOneDirectory: the last part tells.
func TestLessOneDirectory(t *testing.T) {
	rises(t, "a", "b", "c", "z")
	rises(t, "d/a", "d/b", "d/c", "d/z")
	rises(t, ".../a", ".../b")
	rises(t, "abcdef/a", "abcdef/z")
	rises(t, "a/bcdefg", "a/bcdefh")
	rises(t, "abcdefgh", "abcdefgi")
}

// TestLessTwoDirectories: they tell, whatever the last parts are.
func TestLessTwoDirectories(t *testing.T) {
	rises(t, "d/a", "e/a", "f/a")
	rises(t, "d/z", "e/m", "f/a")
	rises(t, "d/a", "d/z", "e/a", "e/z")
	rises(t, "abcde/z", "abcdf/a")
}

// TestLessWithAndWithout: no directory is less than each, whatever the last parts are, the directory's own name too.
func TestLessWithAndWithout(t *testing.T) {
	rises(t, "a", "a/a")
	rises(t, "z", "a/a")
	rises(t, "d", "d/b")
	rises(t, "b", "d/b")
	rises(t, "e", "d/b")
	rises(t, "zzzzzzzz", "0/0")
	rises(t, "_", "z", "..a/z", ".0/a")
}

// TestLessItself: nothing is less than itself, be it a name or not.
func TestLessItself(t *testing.T) {
	for _, s := range all() {
		less(t, s, s, false)
		less(t, s, string([]byte(s)), false)
	}
}

// TestLessBeginnings: of parts of which one is the other's beginning, the short one is less, though it is followed by a stroke, which is above a point.
func TestLessBeginnings(t *testing.T) {
	rises(t, "a", "aa", "aaa", "aaaaaaaa")
	rises(t, "a", "a.", "a.b", "a0", "a_", "ab")
	rises(t, "d/a", "d/aa", "d/aaa", "d/aaaaaa")
	rises(t, "d/a", "d/a.", "d/a0")
	rises(t, "a/z", "aa/z", "aaa/z", "aaaaaa/z")
	rises(t, "a/z", "a./z", "a.b/z", "a0/z", "a_/z", "ab/z")
	rises(t, "a/z", "a./a")
	rises(t, "a/b", "a./b", "a.../b")
	rises(t, "...", "....", "........")
}

// TestLessBytes: point, digits, underline, letters, by which parts differ at their beginning, their end, or between.
func TestLessBytes(t *testing.T) {
	for _, around := range [][2]string{{"a", ""}, {"a", "a"}, {"d/a", ""}, {"d/a", "b"}, {"", "a"}, {"d/", "a"}, {"", "a/a"}, {"a", "/a"}, {"a", "a/a"}, {"abcdefg", ""}, {"a/cdefg", ""}, {"abcde", "/g"}} {
		var l []string
		for _, c := range bytesOfParts {
			l = append(l, around[0]+string(c)+around[1])
		}
		rises(t, l...)
	}
	rises(t, "0", "9", "_", "a", "z")
	rises(t, "10", "9") // by bytes, not as numbers
	rises(t, "d/10", "d/9")
	rises(t, ".a", "0a", "_a", "aa")
}

// TestLessMixed: names of all kinds, in their order.
func TestLessMixed(t *testing.T) {
	rises(t,
		"...", "..a", ".a", "0", "9", "_", "a", "a.", "a0", "a_", "aa", "b", "z",
		".../z", "..a/z", ".a/z", "0/b", "_/0",
		"a/...", "a/.a", "a/0", "a/9", "a/_", "a/a", "a/a.", "a/a0", "a/a_", "a/aa", "a/b",
		"a./a", "a0/a", "a_/a", "aa/a", "b/a", "z/...",
	)
}

// TestLessNoName: both parts of what may not be are empty: it is less than each name, no name is less than it, nor one such text than another.
func TestLessNoName(t *testing.T) {
	one, two, none := kinds()
	for _, a := range none {
		for _, b := range append(one, two...) {
			less(t, a, b, true)
			less(t, b, a, false)
		}
		for _, b := range none {
			less(t, a, b, false)
		}
	}
}

// TestLessOfFew: all short texts, two by two.
func TestLessOfFew(t *testing.T) {
	l := append(all(), short(4, "a./")...)
	l = append(l, short(3, "0_b/")...)
	lessAsPairs(t, l)
}

// TestLessRandom: texts up to one byte more than a name may have.
func TestLessRandom(t *testing.T) {
	r := rand.New(rand.NewSource(12))
	for range 1000 {
		var l []string
		for range 12 {
			var b []byte
			for range r.Intn(10) {
				b = append(b, "ab/._09"[r.Intn(7)])
			}
			l = append(l, string(b))
		}
		lessAsPairs(t, l)
	}
}

// lessAsPairs fails the test where Less of two of l is not what their parts tell, held against each other as lists.
func lessAsPairs(t *testing.T, l []string) {
	t.Helper()
	pairs := make([][]string, len(l))
	for i, s := range l {
		pairs[i] = pair(s)
	}
	for i, a := range l {
		for j, b := range l {
			less(t, a, b, slices.Compare(pairs[i], pairs[j]) < 0)
		}
	}
}
