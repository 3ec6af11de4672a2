package fails_test

import (
	"math"
	"strings"
	"testing"

	"crossroads/api"
	"crossroads/fails"
)

// P15.1, May.

func TestMayExamples(t *testing.T) {
	may(t, "", 0, 0, true)
	may(t, "1", 1, 1, true)
	may(t, "010", 3, 1, true)
	may(t, "010", 3, 2, true)
	may(t, "010", 3, 0, false)
	may(t, "010", 2, 1, false)
	may(t, "010", 4, 1, false)
}

// TestMayEach: all lists of up to two entries more than there may be, with all numbers about them.
func TestMayEach(t *testing.T) {
	for _, s := range lists(api.MaxCalls + 2) {
		for calls := -2; calls <= api.MaxCalls+3; calls++ {
			for most := -2; most <= api.MaxCalls+3; most++ {
				may(t, s, calls, most, len(s) == calls && calls <= api.MaxCalls && strings.Count(s, "1") <= most)
			}
		}
	}
}

// TestMayAsManyEntries: as many as calls, and neither one fewer nor one more.
func TestMayAsManyEntries(t *testing.T) {
	for calls := range api.MaxCalls + 1 {
		s := long(calls)
		may(t, s, calls, calls, true)
		may(t, s+"0", calls, calls, false)
		may(t, s+"1", calls, calls+1, false)
		if calls > 0 {
			may(t, s[1:], calls, calls, false)
		}
	}
}

// TestMayOfCalls: from 0 to MaxCalls, with as many entries.
func TestMayOfCalls(t *testing.T) {
	for calls := range api.MaxCalls + 20 {
		for _, s := range []string{strings.Repeat("0", calls), strings.Repeat("1", calls)} {
			may(t, s, calls, calls, calls <= api.MaxCalls)
		}
	}
	for _, calls := range []int{1 << 8, 1<<8 + 2, 1 << 16, 1<<16 + 3} {
		may(t, strings.Repeat("0", calls), calls, calls, false)
	}
}

// TestMayOfFewerThanNone: calls below nought, whatever list.
func TestMayOfFewerThanNone(t *testing.T) {
	for _, calls := range []int{-1, -2, -api.MaxCalls, -1 << 8, -1 << 16, -1 << 32, math.MinInt + 1, math.MinInt} {
		for _, s := range []string{"", "0", "1", "00", "000000", "0000000"} {
			for _, most := range []int{calls, -1, 0, 1, math.MaxInt} {
				may(t, s, calls, most, false)
			}
		}
	}
}

// TestMayOfMostTrue: as many that are true as most, one fewer and one more, wherever they stand.
func TestMayOfMostTrue(t *testing.T) {
	for _, s := range lists(api.MaxCalls) {
		n := strings.Count(s, "1")
		may(t, s, len(s), n, true)
		may(t, s, len(s), n+1, true)
		may(t, s, len(s), n-1, false)
		for _, most := range []int{len(s), len(s) + 1, 1 << 8, 1 << 16, 1 << 32, math.MaxInt} {
			may(t, s, len(s), most, true)
		}
	}
}

// TestMayOfMostNone: with a most of 0 none is true; with one below nought there is no list, as each has 0 at least.
func TestMayOfMostNone(t *testing.T) {
	for _, s := range lists(api.MaxCalls) {
		may(t, s, len(s), 0, !strings.Contains(s, "1"))
		for _, most := range []int{-1, -2, -len(s) - 1, -1 << 8, -1 << 16, -1 << 32, math.MinInt + 1, math.MinInt} {
			may(t, s, len(s), most, false)
		}
	}
}

// TestMayOfNone: a list of none is nil, or empty, or has spare room alone.
func TestMayOfNone(t *testing.T) {
	for _, l := range [][]bool{nil, {}, list(""), list("11")[:0]} {
		for _, s := range []struct {
			calls, most int
			want        bool
		}{{0, 0, true}, {0, 6, true}, {0, -1, false}, {1, 0, false}, {-1, 0, false}} {
			if fails.May(l, s.calls, s.most) != s.want {
				t.Errorf("May(%v, %d, %d) = %v", l, s.calls, s.most, !s.want)
			}
		}
	}
}

// TestMayOfMany: a list of very many entries is refused, whatever is said of it.
func TestMayOfMany(t *testing.T) {
	s := strings.Repeat("0", 1<<22)
	for _, calls := range []int{0, 1, api.MaxCalls, 1 << 22} {
		may(t, s, calls, 1<<22, false)
	}
}
