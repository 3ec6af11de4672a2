package clause

import (
	"math"
	"math/rand"
	"slices"
	"testing"

	"crossroads/api"
)

// pure fails the test where Pure of f is not want.
func pure(t *testing.T, n int, f [][]int, want ...int) {
	t.Helper()
	if got := Pure(n, f); !slices.Equal(got, want) {
		t.Errorf("Pure(%d, %v) = %v, want %v", n, f, got, want)
	}
}

func TestPureOfNothing(t *testing.T) {
	for _, n := range []int{0, 1, 3, api.MaxLits} {
		for _, f := range [][][]int{nil, {}, {nil}, {{}}, {nil, {}, nil}} {
			pure(t, n, f)
		}
	}
}

func TestPureOfOneClause(t *testing.T) {
	pure(t, 1, [][]int{{1}}, 1)
	pure(t, 1, [][]int{{-1}}, -1)
	pure(t, 5, [][]int{{3}}, 3)
	pure(t, 5, [][]int{{-5}}, -5)
	pure(t, 5, [][]int{{1, -1}})
	pure(t, 5, [][]int{{-1, 1}})
	pure(t, 5, [][]int{{2, 2}}, 2)
	pure(t, 5, [][]int{{-2, 4, -4, -2}}, -2)
	pure(t, 9, [][]int{{1, -2, 3}, {}, nil}, 1, -2, 3)
}

// TestPureIsByNumber: not by which comes first, nor by sign.
func TestPureIsByNumber(t *testing.T) {
	pure(t, 4, [][]int{{4, -3, 2, -1}}, -1, 2, -3, 4)
	pure(t, 4, [][]int{{-4}, {3}, {-2}, {1}}, 1, -2, 3, -4)
	pure(t, 4, [][]int{{-1, -2, -4}}, -1, -2, -4)
	pure(t, 300, [][]int{{256, -255}, {300, -9, 10}}, -9, 10, -255, 256, 300)
}

// TestPureOfANumberInManyClauses: one way in several it is pure, and answered once; both ways it is not, be it in two clauses or one, whichever way it stands more often.
func TestPureOfANumberInManyClauses(t *testing.T) {
	pure(t, 3, [][]int{{1, 2}, {1, -3}, {1, 2}}, 1, 2, -3)
	pure(t, 3, [][]int{{-2}, {-2}, {-2, -2}}, -2)
	pure(t, 3, [][]int{{1}, {-1}})
	pure(t, 3, [][]int{{-1}, {1}})
	pure(t, 3, [][]int{{1, 2}, {-1, 3}}, 2, 3)
	pure(t, 3, [][]int{{-3, 2}, {3, 1}, {3}}, 1, 2)
	pure(t, 3, [][]int{{1}, {1}, {1, 2}, {-1}}, 2)
	pure(t, 3, [][]int{{-1}, {1}, {1}, {-1}, {-1, -2}}, -2)
	pure(t, 3, [][]int{{1, -1}, {1}})
	pure(t, 3, [][]int{{1, -1}, {-1}})
}

// TestPureOfWhatMayNotBe: there is none, whatever else stands there.
func TestPureOfWhatMayNotBe(t *testing.T) {
	for _, n := range wrongNumbers {
		for _, f := range [][][]int{nil, {nil}, {{1}}, {{1, -2}, {1}}} {
			pure(t, n, f)
		}
	}
	for _, n := range []int{1, 2, 7, api.MaxLits} {
		for _, l := range []int{0, n + 1, -n - 1, 1 << 32, 1<<32 + 1, -1<<32 - 1, math.MaxInt, -math.MaxInt, math.MinInt, math.MinInt + 1} {
			for _, f := range [][][]int{{{l}}, {{l, 1}}, {{1, l}}, {{1}, {l}}, {{l}, {1}}, {{1}, {-n, l}, {n}}} {
				pure(t, n, f)
			}
		}
	}
	pure(t, 0, [][]int{{1}})
	pure(t, 0, [][]int{{-1}})
	pure(t, 0, [][]int{{0}})
}

func TestPureOfTheGreatestNumber(t *testing.T) {
	for _, n := range []int{1, 2, 255, 256, api.MaxLits - 1, api.MaxLits} {
		pure(t, n, [][]int{{n}}, n)
		pure(t, n, [][]int{{-n}}, -n)
		pure(t, n, [][]int{{-n}, {n}})
	}
}

func TestPureOfAllSmallFormulas(t *testing.T) {
	formulas(numbers, func(f [][]int) {
		all := slices.Concat(f...)
		for n := range 5 {
			var want []int
			for v := 1; v <= 3 && May(n, f); v++ {
				is, not := slices.Contains(all, v), slices.Contains(all, -v)
				if is && !not {
					want = append(want, v)
				} else if not && !is {
					want = append(want, -v)
				}
			}
			if got := Pure(n, f); !slices.Equal(got, want) {
				t.Fatalf("Pure(%d, %v) = %v, want %v", n, f, got, want)
			}
		}
	})
}

// TestPureOfLongFormulas: all numbers that there may be, of which some stand both ways.
func TestPureOfLongFormulas(t *testing.T) {
	r := rand.New(rand.NewSource(44))
	var f [][]int
	var want []int
	for v := 1; v <= api.MaxLits; v++ {
		switch r.Intn(4) {
		case 0:
			f, want = append(f, []int{v}), append(want, v)
		case 1:
			f, want = append(f, []int{-v, -v}), append(want, -v)
		case 2:
			f = append(f, []int{v}, []int{-v})
		}
	}
	r.Shuffle(len(f), func(i, k int) { f[i], f[k] = f[k], f[i] })
	if got := Pure(api.MaxLits, f); !slices.Equal(got, want) {
		t.Errorf("a long formula: %d literals, want %d", len(got), len(want))
	}
}

func TestPureChangesNothing(t *testing.T) {
	for _, f := range [][][]int{nil, {nil}, {{3, -1, 3}, {}, {2, -2}}, {{0, math.MinInt, 9}, {1}}, {{2, 1}, {-3, 1, -3}}} {
		unchanged(t, "Pure", f, func(f [][]int) { Pure(3, f) })
	}
}

func TestPureIsNewMemory(t *testing.T) {
	for _, c := range [][]int{{1, 2, 3}, {-1}, {1, -3}, {}} {
		newMemory(t, "Pure", c, c, func(f [][]int) []int { return Pure(3, f) })
	}
}
