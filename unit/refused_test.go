package unit

import (
	"math"
	"slices"
	"testing"

	"crossroads/api"
)

// TestWhatMayNotBe: a formula over too few or too many numbers, or with a literal that is none, wherever it stands.
func TestWhatMayNotBe(t *testing.T) {
	for _, f := range [][][]int{nil, {}, {nil}, {{1}}} {
		for _, n := range []int{math.MinInt, -1 << 32, -1, api.MaxLits + 1, 1<<32 + 1, math.MaxInt} {
			refused(t, n, f, nil)
		}
		for _, n := range []int{api.MaxLits + 1, 2 * api.MaxLits} {
			refused(t, n, f, open(n))
		}
	}
	for _, n := range []int{0, 1, 2, 7, 256, api.MaxLits} {
		for _, l := range []int{0, n + 1, -n - 1, n + 2, 1 << 32, 1<<32 + 1, -1<<32 - 1, math.MaxInt, -math.MaxInt, math.MinInt, math.MinInt + 1} {
			refused(t, n, [][]int{{l}}, open(n))
			if n == 0 {
				continue
			}
			for _, f := range [][][]int{{{l, 1}}, {{1, l}}, {{1}, {l}}, {{l}, {1}}, {{}, {1, -1, l}, nil}, {{1}, {-1}, {l}}} {
				refused(t, n, f, open(n))
			}
		}
	}
	refused(t, 1, [][]int{{1}, {2}}, []int{1})
	refused(t, 0, [][]int{{1}}, nil)
}

// TestALiteralAtTheEnd: n is one.
func TestALiteralAtTheEnd(t *testing.T) {
	for _, n := range []int{1, 2, 255, 256, api.MaxLits - 1, api.MaxLits} {
		for _, is := range []int{1, -1} {
			want := open(n)
			want[n-1] = is
			got, clash, e := Run(n, [][]int{{n * is}}, open(n))
			if !slices.Equal(got, want) || clash || e != api.OK {
				t.Errorf("the literal %d: %v, %v", n*is, clash, e)
			}
		}
	}
}

// TestFewerAndMoreTruths: there must be n, whatever f is, spare room does not count.
func TestFewerAndMoreTruths(t *testing.T) {
	for _, n := range []int{0, 1, 2, 3, 100, api.MaxLits} {
		for _, k := range []int{0, 1, n - 1, n + 1, 2*n + 1, n + 256, api.MaxLits} {
			if k == n || k < 0 {
				continue
			}
			for _, f := range [][][]int{nil, {}, {nil}, {{}}} {
				refused(t, n, f, open(k))
			}
			if n > 0 {
				refused(t, n, [][]int{{1}, {-n}}, open(k))
			}
		}
	}
	refused(t, 1, nil, nil)
	refused(t, 2, [][]int{{1}}, make([]int, 1, 2))
	refused(t, 2, [][]int{{1}}, []int{1, 0, -1}[:1])
}

// TestNoNumbers: a list of no truths may be nil or not.
func TestNoNumbers(t *testing.T) {
	for _, m := range [][]int{nil, {}, make([]int, 0, 3)} {
		for _, f := range [][][]int{nil, {}} {
			follows(t, 0, f, m)
		}
		for _, f := range [][][]int{{nil}, {{}}, {{}, nil}} {
			clashes(t, 0, f, m)
		}
		refused(t, 0, [][]int{{}, {1}}, m)
		refused(t, 0, [][]int{{0}}, m)
	}
	refused(t, 0, nil, []int{0})
}

// TestWhatIsNoTruth: none of -1, 0 and 1, wherever it stands, whatever f says of that number.
func TestWhatIsNoTruth(t *testing.T) {
	for _, x := range []int{2, -2, 3, -3, 255, 256, 257, 1 << 32, 1<<32 + 1, 1<<32 - 1, -1 << 32, math.MaxInt, math.MinInt, math.MinInt + 1} {
		for i := range 3 {
			m := []int{1, 0, -1}
			m[i] = x
			for _, f := range [][][]int{nil, {nil}, {{1}}, {{i + 1}}, {{-i - 1}}, {{2}, {-2}}, {{1, 2}, {-3}}} {
				refused(t, 3, f, m)
			}
		}
		refused(t, 1, nil, []int{x})
	}
	truths(3, func(m []int) { follows(t, 3, nil, m, m...) })
}
