package clause

import (
	"math"
	"slices"
	"testing"

	"crossroads/api"
)

// worth fails the test where Eval of f under m is not want.
func worth(t *testing.T, f [][]int, m []bool, want bool) {
	t.Helper()
	if Eval(f, m) != want {
		t.Errorf("Eval(%v, %v) = %v", f, m, !want)
	}
}

// truths are lists of truth values of which none says anything of the numbers 1 to 3, or some, or all, or more.
func truths() [][]bool {
	all := [][]bool{nil}
	for n := 1; n <= 4; n++ {
		for v := range 1 << n {
			m := make([]bool, n)
			for i := range m {
				m[i] = v>>i&1 == 1
			}
			all = append(all, m)
		}
	}
	return all
}

func TestEvalOfAFormulaWithoutClauses(t *testing.T) {
	for _, m := range truths() {
		worth(t, nil, m, true)
		worth(t, [][]int{}, m, true)
	}
}

func TestEvalOfAClauseWithoutLiterals(t *testing.T) {
	for _, m := range truths() {
		for _, f := range [][][]int{{nil}, {{}}, {{}, {1, -1}}, {{1, -1}, nil}, {{2, -2}, {}, {1, -1}}} {
			worth(t, f, m, false)
		}
	}
}

func TestEvalOfALiteral(t *testing.T) {
	m := []bool{true, false, true}
	for v, truth := range []bool{true, false, true, false, false, false} {
		worth(t, [][]int{{v + 1}}, m, truth)
		worth(t, [][]int{{-v - 1}}, m, !truth)
	}
	worth(t, [][]int{{1}}, []bool{true}, true)
	worth(t, [][]int{{1}}, []bool{false}, false)
	worth(t, [][]int{{-1}}, []bool{true}, false)
	worth(t, [][]int{{-1}}, []bool{false}, true)
}

// TestEvalBeyond: what there is no truth value of is false, however far; spare room does not count.
func TestEvalBeyond(t *testing.T) {
	ones := []bool{true, true, true, true}
	for _, m := range [][]bool{nil, {}, ones[:0], ones[:1], ones[:2], ones[:3], ones} {
		for _, v := range []int{len(m) + 1, len(m) + 2, 2*len(m) + 1, 100, api.MaxLits, api.MaxLits + 1, 1 << 32, 1<<32 + 1, math.MaxInt - 1, math.MaxInt} {
			worth(t, [][]int{{v}}, m, false)
			worth(t, [][]int{{-v}}, m, true)
			worth(t, [][]int{{v, -v}}, m, true)
		}
		if n := len(m); n > 0 {
			worth(t, [][]int{{n}}, m, true)
			worth(t, [][]int{{-n}}, m, false)
		}
	}
}

// TestEvalOfWhatIsNoLiteral: 0 and the least int never hold, and hinder no other.
func TestEvalOfWhatIsNoLiteral(t *testing.T) {
	for _, m := range truths() {
		for _, l := range []int{0, math.MinInt} {
			one := len(m) > 0 && m[0]
			worth(t, [][]int{{l}}, m, false)
			worth(t, [][]int{{l, l}}, m, false)
			worth(t, [][]int{{0, math.MinInt}}, m, false)
			worth(t, [][]int{{1, -1}, {l}}, m, false)
			worth(t, [][]int{{l, 1}}, m, one)
			worth(t, [][]int{{1, l}}, m, one)
			worth(t, [][]int{{-1, l}}, m, !one)
			worth(t, [][]int{{l, -1}}, m, !one)
		}
	}
}

// TestEvalOfClauses: each of them needs a literal, and one is enough, wherever it stands.
func TestEvalOfClauses(t *testing.T) {
	m := []bool{true, false}
	for _, s := range []struct {
		f  [][]int
		ok bool
	}{
		{[][]int{{1, 2}}, true}, {[][]int{{2, 1}}, true}, {[][]int{{-1, 2}}, false}, {[][]int{{2, 2, 2}}, false}, {[][]int{{1, 1}}, true},
		{[][]int{{1}, {-2}}, true}, {[][]int{{1}, {2}}, false}, {[][]int{{2}, {1}}, false}, {[][]int{{1}, {-1}}, false}, {[][]int{{1, -1}, {2, -2}}, true},
		{[][]int{{1}, {1}, {2}, {1}}, false}, {[][]int{{2, 3, 4, -5}, {-1, -2}}, true}, {[][]int{{1}, {-2}, {-1, 2}}, false}, {[][]int{{3}, {1}}, false}, {[][]int{{-3}, {1}}, true},
	} {
		worth(t, s.f, m, s.ok)
	}
}

// plainWorth is what Eval says of a formula over three numbers and what is no literal.
func plainWorth(f [][]int, m []bool) bool {
	three := make([]bool, 3)
	copy(three, m)
	for _, c := range f {
		any := false
		for v, truth := range three {
			any = any || slices.Contains(c, v+1) && truth || slices.Contains(c, -v-1) && !truth
		}
		if !any {
			return false
		}
	}
	return true
}

func TestEvalOfAllSmallFormulas(t *testing.T) {
	all := truths()
	formulas(numbers, func(f [][]int) {
		for _, m := range all {
			if want := plainWorth(f, m); Eval(f, m) != want {
				t.Fatalf("Eval(%v, %v) = %v", f, m, !want)
			}
		}
	})
}

func TestEvalOfALongFormula(t *testing.T) {
	m := make([]bool, api.MaxLits+10)
	var f [][]int
	for v := range m {
		m[v] = v%3 == 0
		l := v + 1
		if !m[v] {
			l = -l
		}
		f = append(f, []int{-l, 0, l})
	}
	worth := func(f [][]int, m []bool, want bool) {
		t.Helper()
		if Eval(f, m) != want {
			t.Errorf("a long formula is %v", !want)
		}
	}
	worth(f, m, true)
	f[len(f)-1] = f[len(f)-1][:2]
	worth(f, m, false)
	worth(f[:len(f)-1], m, true)
	worth(f, m[:3], false)
}

func TestEvalChangesNothing(t *testing.T) {
	for _, f := range [][][]int{nil, {nil}, {{3, -1, 3}, {}, {2, -2}}, {{0, math.MinInt, 9}, {1}}, {{2, 1}, {-2, 1, -2}}} {
		m := []bool{true, false, true, true}
		unchanged(t, "Eval", f, func(f [][]int) { Eval(f, m[:2]) })
		if !slices.Equal(m, []bool{true, false, true, true}) {
			t.Errorf("Eval(%v) changed the truth values that it was given", f)
		}
	}
}

// TestEvalKeepsNothing: the same lists with something else in them are asked anew.
func TestEvalKeepsNothing(t *testing.T) {
	f, m := [][]int{{1, 2}}, []bool{true, false}
	worth(t, f, m, true)
	m[0] = false
	worth(t, f, m, false)
	f[0][1] = -2
	worth(t, f, m, true)
}
