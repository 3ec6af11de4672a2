package dpll

import (
	"math"
	"testing"

	"crossroads/api"
)

// refused fails the test where Solve or Count takes f, or answers something beside ErrArg.
func refused(t *testing.T, n int, f [][]int) {
	t.Helper()
	for _, b := range []int{0, 1, 2, 100, 1 << 40, math.MaxInt} {
		unsolved(t, n, f, b)
		uncounted(t, n, f, b)
	}
}

// unsolved fails the test where Solve is not refused.
func unsolved(t *testing.T, n int, f [][]int, budget int) {
	t.Helper()
	if k, m, e := Solve(n, f, budget); k != 0 || len(m) != 0 || e != api.ErrArg {
		t.Errorf("Solve(%d, %v, %d) = %d, %d truths, %v; want ErrArg", n, f, budget, k, len(m), e)
	}
}

// uncounted fails the test where Count is not refused.
func uncounted(t *testing.T, n int, f [][]int, most int) {
	t.Helper()
	if k, e := Count(n, f, most); k != 0 || e != api.ErrArg {
		t.Errorf("Count(%d, %v, %d) = %d, %v; want ErrArg", n, f, most, k, e)
	}
}

// TestWhatMayNotBe: a formula over too few or too many numbers, or with a literal that is none, wherever it stands.
func TestWhatMayNotBe(t *testing.T) {
	for _, f := range [][][]int{nil, {}, {nil}, {{}}, {{1}}, {{1}, {-1}}} {
		for _, n := range []int{math.MinInt, math.MinInt + 3, -1 << 32, -api.MaxLits, -24, -1, api.MaxLits + 1, 2 * api.MaxLits, 1<<32 + 1, math.MaxInt} {
			refused(t, n, f)
		}
	}
	for _, n := range []int{0, 1, 2, 7, 24} {
		for _, l := range []int{0, n + 1, -n - 1, n + 2, 256 + n, api.MaxLits, 1 << 32, 1<<32 + 1, -1<<32 - 1, math.MaxInt, -math.MaxInt, math.MinInt, math.MinInt + 1} {
			refused(t, n, [][]int{{l}})
			if n == 0 {
				continue
			}
			for _, f := range [][][]int{{{l, 1}}, {{1, l}}, {{1}, {l}}, {{l}, {1}}, {{}, {1, -1, l}, nil}, {{1}, {-1}, {l}}, {{1, l, -1}}, {nil, {l}}} {
				refused(t, n, f)
			}
		}
	}
	unsolved(t, api.MaxLits, [][]int{{api.MaxLits}, {api.MaxLits + 1}}, 1)
	unsolved(t, api.MaxLits, [][]int{{-api.MaxLits}, {0}}, 1)
}

func TestBudgetsBelowNothing(t *testing.T) {
	for _, b := range []int{-1, -2, -256, -1 << 32, -1 << 40, math.MinInt + 1, math.MinInt} {
		for _, n := range []int{0, 1, 3, 24, 25, api.MaxLits} {
			for _, f := range [][][]int{nil, {}, {nil}, {{}}} {
				unsolved(t, n, f, b)
				uncounted(t, n, f, b)
			}
			if n > 0 {
				unsolved(t, n, [][]int{{1, n}}, b)
				unsolved(t, n, [][]int{{1}, {-1}}, b)
				uncounted(t, n, [][]int{{1, -n}}, b)
			}
		}
	}
}

// TestCountOfManyNumbers: of 24 it is taken, of 25 no more; Solve takes as many as there may be.
func TestCountOfManyNumbers(t *testing.T) {
	for _, most := range []int{0, 1, 7, 1 << 24, 1 << 40, math.MaxInt} {
		for _, n := range []int{25, 26, 32, 64, 256 + 24, api.MaxLits} {
			for _, f := range [][][]int{nil, {}, {nil}, {{1}}, {{n}}, {{1}, {-1}}, {{1, -n}}} {
				uncounted(t, n, f, most)
			}
		}
		for _, n := range []int{0, 1, 23, 24} {
			if k, e := Count(n, nil, most); k != min(most, 1<<n) || e != api.OK {
				t.Errorf("Count(%d, nil, %d) = %d, %v", n, most, k, e)
			}
		}
	}
	for _, n := range []int{25, api.MaxLits - 1, api.MaxLits} {
		is(t, Sat, n, [][]int{{n}, {-1}}, 0, 1<<40)
		is(t, Unsat, n, [][]int{{n}, {-n}}, 0, 1<<40)
	}
}
