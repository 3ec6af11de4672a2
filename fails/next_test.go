package fails_test

import (
	"slices"
	"testing"

	"crossroads/fails"
)

// P15.1, New, Next and Used.

// TestNextExample is the chapter's example.
func TestNextExample(t *testing.T) {
	f := fails.New([]bool{true})
	if first, second := f.Next(), f.Next(); !first || second {
		t.Errorf("Next, Next = %v, %v; want true, false", first, second)
	}
}

// TestNextOneByOne: each entry in its turn, of all short lists and of long ones, and none behind the last.
func TestNextOneByOne(t *testing.T) {
	for _, s := range append(lists(8), long(255), long(256), long(257), long(70000)) {
		f := fails.New(list(s))
		used(t, f, 0)
		asks(t, f, s)
		behind(t, f)
	}
}

// TestNextOfNone: a list of none is nil, or empty, or has spare room alone.
func TestNextOfNone(t *testing.T) {
	for _, l := range [][]bool{nil, {}, list(""), list("11")[:0]} {
		f := fails.New(l)
		if f == nil {
			t.Errorf("New(%v) = nil", l)
		}
		used(t, f, 0)
		behind(t, f)
		used(t, f, 0)
	}
}

// TestNextBehindTrue: that the last entry is true does not show once more, and neither does the first.
func TestNextBehindTrue(t *testing.T) {
	for _, s := range []string{"1", "01", "10", "11", "111111", "1111111"} {
		f := fails.New(list(s))
		asks(t, f, s)
		behind(t, f)
		used(t, f, len(s))
	}
}

// TestUsed: to ask how many were asked asks none, and so the next entry is still the next.
func TestUsed(t *testing.T) {
	f := fails.New(list("101"))
	for i, want := range []bool{true, false, true, false, false} {
		used(t, f, min(i, 3))
		if got := f.Next(); got != want {
			t.Errorf("Next %d = %v", i, got)
		}
	}
	used(t, f, 3)
}

// TestNewGoTheirOwnWays: neither of two shows what the other was asked, of one list or of two.
func TestNewGoTheirOwnWays(t *testing.T) {
	l := list("100101")
	one, two := fails.New(l), fails.New(l)
	asks(t, one, "1001")
	used(t, two, 0)
	asks(t, two, "10")
	used(t, one, 4)
	three := fails.New(list("011"))
	used(t, three, 0)
	asks(t, three, "0")
	asks(t, one, "01")
	asks(t, two, "0")
	behind(t, one)
	asks(t, three, "11")
	asks(t, two, "101")
	behind(t, three)
	behind(t, two)
	used(t, fails.New(l), 0)
}

// TestNewKeepsNothing: a list that is changed behind New, its spare room too, changes no answer (R4).
func TestNewKeepsNothing(t *testing.T) {
	for _, s := range lists(6) {
		for asked := range len(s) + 1 {
			l := list(s)
			f := fails.New(l)
			asks(t, f, s[:asked])
			for i := range l[:cap(l)] {
				l[:cap(l)][i] = !l[:cap(l)][i]
			}
			asks(t, f, s[asked:])
			behind(t, f)
		}
	}
}

// TestNewLonger: what is put behind a list afterwards, into its spare room, is not asked.
func TestNewLonger(t *testing.T) {
	l := list("01")
	f := fails.New(l)
	l = append(l, true, true)
	asks(t, f, text(l[:2]))
	behind(t, f)
}

// TestNewChangesNothing: neither New nor what is asked changes the list, nor its spare room (R4).
func TestNewChangesNothing(t *testing.T) {
	for _, s := range lists(7) {
		l := list(s)
		whole := slices.Clone(l[:cap(l)])
		f := fails.New(l)
		for range cap(l) + 2 {
			f.Next()
			f.Used()
		}
		if !slices.Equal(l[:cap(l)], whole) || len(l) != len(s) {
			t.Errorf("New(%q) has changed its list: %q, where %q was", s, text(l[:cap(l)]), text(whole))
		}
	}
}

// TestNil: a nil Fails, and one that New did not make, have no entries (R7).
func TestNil(t *testing.T) {
	var none *fails.Fails
	for _, f := range []*fails.Fails{none, {}} {
		used(t, f, 0)
		behind(t, f)
		used(t, f, 0)
	}
}
