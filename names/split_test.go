package names

import (
	"testing"
	"unsafe"
)

// P12.1, Split.

func TestTheExample(t *testing.T) {
	splits(t, "d/b", "d", "b")
}

// TestSplitTwo: what stands ahead of the stroke, and the last part, wherever the stroke is.
func TestSplitTwo(t *testing.T) {
	splits(t, "a/a", "a", "a")
	splits(t, "ab/c", "ab", "c")
	splits(t, "a/bc", "a", "bc")
	splits(t, "a.b/c_1", "a.b", "c_1")
	splits(t, ".../.a", "...", ".a")
	splits(t, "_/...", "_", "...")
	for size := 3; size <= 8; size++ {
		for i, s := range twos(size) {
			splits(t, s, "abcdefgh"[:i+1], "rstuvwxyz"[:size-i-2])
		}
	}
}

// TestSplitOne: where there is no stroke, nothing stands ahead of it.
func TestSplitOne(t *testing.T) {
	one, _, _ := kinds()
	for _, s := range one {
		splits(t, s, "", s)
	}
	for n := 1; n <= 8; n++ {
		splits(t, "abcdefgh"[:n], "", "abcdefgh"[:n])
	}
}

// TestSplitNoName: both are empty, though there is a stroke, or one of the parts would be well.
func TestSplitNoName(t *testing.T) {
	_, _, none := kinds()
	for _, s := range append(none, twos(9)...) {
		splits(t, s, "", "")
	}
}

// TestSplitOfFew: all short texts.
func TestSplitOfFew(t *testing.T) {
	for _, s := range append(short(6, "a9_./A"), short(9, "a./")...) {
		l := pair(s)
		splits(t, s, l[0], l[1])
	}
}

// TestSplitAgain: what was split is put together of its parts, and each of them is a name of one part.
func TestSplitAgain(t *testing.T) {
	one, two, _ := kinds()
	for _, s := range append(one, two...) {
		dir, last := Split(s)
		if dir != "" {
			splits(t, dir, "", dir)
			dir += "/"
		}
		splits(t, last, "", last)
		if dir+last != s {
			t.Errorf("Split(%q) = %q, %q", s, dir, last)
		}
	}
}

// TestSplitIsNew: no part is a piece of what was split.
func TestSplitIsNew(t *testing.T) {
	one, two, _ := kinds()
	for _, s := range append(one, two...) {
		dir, last := Split(s)
		if within(dir, s) || within(last, s) {
			t.Errorf("Split(%q) answers a piece of it", s)
		}
	}
}

// within tells whether part's bytes are some of s's, not others like them.
func within(part, s string) bool {
	at, from := uintptr(unsafe.Pointer(unsafe.StringData(part))), uintptr(unsafe.Pointer(unsafe.StringData(s)))
	return part != "" && from <= at && at < from+uintptr(len(s))
}
