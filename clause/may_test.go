package clause

import (
	"math"
	"slices"
	"testing"

	"crossroads/api"
)

func TestMayOfNumbersOfVariables(t *testing.T) {
	for _, n := range []int{0, 1, 2, 3, 100, api.MaxLits - 1, api.MaxLits} {
		for _, f := range [][][]int{nil, {}, {nil}, {{}}, {nil, {}, nil}} {
			if !May(n, f) {
				t.Errorf("May(%d, %v) = false", n, f)
			}
		}
	}
	for _, n := range wrongNumbers {
		for _, f := range [][][]int{nil, {}, {nil}, {{}}, {{1}}, {{-1, 1}, {1}}} {
			if May(n, f) {
				t.Errorf("May(%d, %v) = true", n, f)
			}
		}
	}
}

// TestMayOfALiteral: alone, and wherever it stands among others that may be.
func TestMayOfALiteral(t *testing.T) {
	for _, n := range []int{0, 1, 2, 7, 255, 256, 257, api.MaxLits - 1, api.MaxLits} {
		for _, s := range []struct {
			l  int
			ok bool
		}{
			{1, n >= 1}, {-1, n >= 1}, {n, n >= 1}, {-n, n >= 1}, {n + 1, false}, {-n - 1, false}, {n + 2, false}, {2*n + 1, false}, {-2*n - 1, false}, {0, false},
			{1 << 32, false}, {1<<32 + 1, false}, {-1<<32 - 1, false}, {math.MaxInt, false}, {-math.MaxInt, false}, {math.MinInt, false}, {math.MinInt + 1, false},
		} {
			f := [][]int{{s.l}}
			if May(n, f) != s.ok {
				t.Errorf("May(%d, %v) = %v", n, f, !s.ok)
			}
			if n < 1 {
				continue
			}
			for _, f := range [][][]int{{{s.l, 1}}, {{1, s.l}}, {{1, s.l, -1}}, {{s.l}, {1}}, {{1}, {s.l}}, {{1}, {-1, s.l}, {n}}, {{}, {s.l}, {}}} {
				if May(n, f) != s.ok {
					t.Errorf("May(%d, %v) = %v", n, f, !s.ok)
				}
			}
		}
	}
}

// TestMayOfWhatIsAlike: what stands twice, and v and -v in one clause, may be.
func TestMayOfWhatIsAlike(t *testing.T) {
	for _, f := range [][][]int{{{1, 1}}, {{1, -1}}, {{-1, 1}, {1, -1}}, {{2, 1, 2}, {2, 1, 2}}, {{-2, -2, 2}}} {
		if !May(2, f) {
			t.Errorf("May(2, %v) = false", f)
		}
	}
}

func TestMayOfAllSmallFormulas(t *testing.T) {
	formulas(numbers, func(f [][]int) {
		all := slices.Concat(f...)
		for n := range 5 {
			ok := !slices.Contains(all, 0) && !slices.Contains(all, math.MinInt)
			for v := n + 1; v <= 3; v++ {
				ok = ok && !slices.Contains(all, v) && !slices.Contains(all, -v)
			}
			if May(n, f) != ok {
				t.Fatalf("May(%d, %v) = %v", n, f, !ok)
			}
		}
	})
}

// TestMayOfALongFormula: of as many clauses, and of one of as many literals, as there are numbers; the last one is asked.
func TestMayOfALongFormula(t *testing.T) {
	var f [][]int
	var c []int
	for v := 1; v <= api.MaxLits; v++ {
		f, c = append(f, []int{-v}), append(c, v)
	}
	f = append(f, c)
	if !May(api.MaxLits, f) || May(api.MaxLits-1, f) || May(api.MaxLits-1, f[:api.MaxLits]) || May(api.MaxLits-1, f[api.MaxLits:]) || !May(api.MaxLits-1, f[:api.MaxLits-1]) {
		t.Error("a long formula")
	}
}

func TestMayChangesNothing(t *testing.T) {
	for _, f := range [][][]int{nil, {nil}, {{3, -1, 3}, {}, {2, -2}}, {{0, math.MinInt, 9}, {1}}} {
		unchanged(t, "May", f, func(f [][]int) { May(3, f) })
	}
}
