package unit

import (
	"math/rand"
	"slices"
	"testing"

	"crossroads/api"
)

func TestTheExample(t *testing.T) {
	follows(t, 2, [][]int{{1}, {-1, 2}}, open(2), 1, 1)
}

// TestNothingFollows: what was assigned is all that is.
func TestNothingFollows(t *testing.T) {
	for _, f := range [][][]int{nil, {}, {{1, 2, 3}}, {{1, -1}}, {{1, -1, 1}, {2, -2}}, {{1, 2}, {-1, -2}, {2, 3}}, {{-1, -2, -3}, {1, 2}}} {
		follows(t, 3, f, open(3), 0, 0, 0)
	}
	follows(t, 3, nil, []int{1, -1, 0}, 1, -1, 0)
	follows(t, 3, [][]int{{1, 2, 3}}, []int{-1, 0, 0}, -1, 0, 0)
	follows(t, 3, [][]int{{-1, -2, 3}, {2, 3}}, []int{1, 0, 0}, 1, 0, 0)
}

func TestOneOpenLiteral(t *testing.T) {
	follows(t, 1, [][]int{{1}}, open(1), 1)
	follows(t, 1, [][]int{{-1}}, open(1), -1)
	follows(t, 3, [][]int{{-2}}, open(3), 0, -1, 0)
	follows(t, 3, [][]int{{1, 2, 3}}, []int{-1, 0, -1}, -1, 1, -1)
	follows(t, 3, [][]int{{1, -2, -3}}, []int{0, 1, 1}, 1, 1, 1)
	follows(t, 3, [][]int{{1, 2, -3}}, []int{-1, -1, 0}, -1, -1, -1)
	follows(t, 3, [][]int{{2}}, []int{-1, 0, 1}, -1, 1, 1)
}

// TestOneOpenLiteralTwice: alike ones are one.
func TestOneOpenLiteralTwice(t *testing.T) {
	follows(t, 1, [][]int{{1, 1}}, open(1), 1)
	follows(t, 1, [][]int{{-1, -1, -1}}, open(1), -1)
	follows(t, 2, [][]int{{2, 1, 2}}, []int{-1, 0}, -1, 1)
	follows(t, 2, [][]int{{1, 2, 1, 2}}, []int{-1, 0}, -1, 1)
	follows(t, 2, [][]int{{1, -2, -2, 1}, {-1, -1}}, open(2), -1, -1)
	follows(t, 3, [][]int{{1, 1, 2, 3}}, []int{-1, 0, 0}, -1, 0, 0)
	follows(t, 3, [][]int{{2, 1, 2, 3, 1, 1}}, []int{-1, 0, 0}, -1, 0, 0)
	clashes(t, 2, [][]int{{1, 1, -2}}, []int{-1, 1})
}

func TestTwoOpenLiterals(t *testing.T) {
	for _, k := range []int{1, -1} {
		for _, l := range []int{2, -2} {
			follows(t, 2, [][]int{{k, l}}, open(2), 0, 0)
			follows(t, 3, [][]int{{k, 3, l}}, []int{0, 0, -1}, 0, 0, -1)
			follows(t, 3, [][]int{{k, l, k, l}}, open(3), 0, 0, 0)
		}
	}
}

// TestANumberBothWays: v and -v are two that are open; once v is assigned, one of them holds.
func TestANumberBothWays(t *testing.T) {
	for _, f := range [][][]int{{{1, -1}}, {{-1, 1}}, {{1, -1, 1}}, {{1, -1, 2}}, {{2, -1, 1}}} {
		follows(t, 2, f, open(2), 0, 0)
		follows(t, 2, f, []int{0, -1}, 0, -1)
		follows(t, 2, f, []int{1, -1}, 1, -1)
		follows(t, 2, f, []int{-1, -1}, -1, -1)
		follows(t, 2, f, []int{1, 0}, 1, 0)
		follows(t, 2, append(slices.Clone(f), []int{-2}, []int{2, -1}), open(2), -1, -1)
	}
}

// TestAClauseWithoutLiterals: it can't hold, whatever else there is.
func TestAClauseWithoutLiterals(t *testing.T) {
	for _, f := range [][][]int{{nil}, {{}}, {{1}, {}}, {nil, {1}}, {{1, 2}, {}, {-1, -2}}, {{1, -1}, nil}, {{1}, {-1}, {}}} {
		truths(2, func(m []int) { clashes(t, 2, f, m) })
	}
}

// TestAClauseThatHolds: nothing follows from it, however few of its others are open.
func TestAClauseThatHolds(t *testing.T) {
	follows(t, 2, [][]int{{1, 2}}, []int{1, 0}, 1, 0)
	follows(t, 2, [][]int{{2, 1}}, []int{1, 0}, 1, 0)
	follows(t, 2, [][]int{{2, -1}}, []int{-1, 0}, -1, 0)
	follows(t, 3, [][]int{{1, 2, 3}}, []int{1, -1, 0}, 1, -1, 0)
	follows(t, 3, [][]int{{3, 2, 1}, {3, 2, 1}}, []int{1, -1, 0}, 1, -1, 0)
	follows(t, 3, [][]int{{1, 2}, {-2, 3}}, []int{1, 0, 0}, 1, 0, 0)
	follows(t, 3, [][]int{{1}, {2}, {3}}, []int{1, 1, 1}, 1, 1, 1)
	follows(t, 2, [][]int{{1}, {1, 2}, {1, -2}}, open(2), 1, 0)
	follows(t, 2, [][]int{{1, 2}, {1, -2}, {1}}, open(2), 1, 0)
}

// TestAContradictionAtOnce: in what is assigned from the first, or between two clauses.
func TestAContradictionAtOnce(t *testing.T) {
	clashes(t, 1, [][]int{{1}}, []int{-1})
	clashes(t, 1, [][]int{{-1}}, []int{1})
	clashes(t, 3, [][]int{{1, -2, 3}}, []int{-1, 1, -1})
	clashes(t, 3, [][]int{{3}, {1, -2}}, []int{-1, 1, 0})
	clashes(t, 3, [][]int{{1, 1, -2, -2}}, []int{-1, 1, 0})
}

func TestBothWaysAskedFor(t *testing.T) {
	for _, f := range [][][]int{{{1}, {-1}}, {{-1}, {1}}, {{1, 1}, {-1, -1}}, {{2}, {1}, {3}, {-2}}} {
		clashes(t, 3, f, open(3))
	}
	clashes(t, 3, [][]int{{1, 2}, {1, -2}}, []int{-1, 0, 0})
	clashes(t, 3, [][]int{{2, 3}, {-3, 2}, {-2, 1}, {-1, -2}}, []int{0, 0, 1})
	clashes(t, 3, [][]int{{1}, {-1, 2}, {-1, -2}}, open(3))
	clashes(t, 3, [][]int{{1}, {3}, {-1, 2}, {-3, -2}}, open(3))
}

// TestWhatFollowsOneByOne: each from those ahead of it.
func TestWhatFollowsOneByOne(t *testing.T) {
	f := [][]int{{-1, 2}, {-1, -2, 3}, {-3, -2, -4}, {4, 5, -1}}
	follows(t, 5, f, open(5), 0, 0, 0, 0, 0)
	follows(t, 5, f, []int{1, 0, 0, 0, 0}, 1, 1, 1, -1, 1)
	follows(t, 5, f, []int{0, 1, 0, 0, 0}, 0, 1, 0, 0, 0)
	follows(t, 5, f, []int{0, 1, 1, 0, -1}, -1, 1, 1, -1, -1)
	follows(t, 5, f, []int{0, -1, 0, 0, 0}, -1, -1, 0, 0, 0)
	clashes(t, 5, f, []int{1, 0, 0, 1, 0})
	clashes(t, 5, f, []int{1, 0, 0, 0, -1})
	clashes(t, 5, f, []int{1, -1, 0, 0, 0})
}

// links are the clauses by which v+1 follows from v, for each v from 1 to below n.
func links(n int) (f [][]int) {
	for v := 1; v < n; v++ {
		f = append(f, []int{v + 1, -v})
	}
	return f
}

// long fails the test where of a formula over n numbers it does not follow that all are so.
func long(t *testing.T, f [][]int, m []int, is int) {
	t.Helper()
	got, clash, e := Run(len(m), f, m)
	if len(got) != len(m) || slices.ContainsFunc(got, func(x int) bool { return x != is }) || clash || e != api.OK {
		t.Errorf("a long chain of %d: %d truths, %v, %v", len(m), len(got), clash, e)
	}
}

// TestLongChains: from their beginning and from their end, in the order of their clauses, the other way round, and in none.
func TestLongChains(t *testing.T) {
	for _, n := range []int{2, 3, 100, api.MaxLits - 1, api.MaxLits} {
		f := links(n)
		r := rand.New(rand.NewSource(5))
		for _, turn := range []func(){func() {}, func() { slices.Reverse(f) }, func() { f = shuffled(r, f) }} {
			turn()
			first, last := open(n), open(n)
			first[0], last[n-1] = 1, -1
			long(t, f, first, 1)
			long(t, f, last, -1)
			long(t, append(slices.Clone(f), []int{1}), open(n), 1)
			long(t, append([][]int{{-n}}, f...), open(n), -1)
			long(t, f, open(n), 0)
			first[n-1] = -1
			for _, g := range [][][]int{append(slices.Clone(f), []int{1}, []int{-n}), append([][]int{{-n}, {1}}, f...)} {
				if got, clash, e := Run(n, g, open(n)); len(got) != 0 || !clash || e != api.OK {
					t.Errorf("a contradiction behind a chain of %d: %d truths, %v, %v", n, len(got), clash, e)
				}
			}
			if got, clash, e := Run(n, f, first); len(got) != 0 || !clash || e != api.OK {
				t.Errorf("a contradiction between the ends of a chain of %d: %d truths, %v, %v", n, len(got), clash, e)
			}
		}
	}
}

// TestALongClause: of all numbers that there may be, of which all but one are found to be false one by one.
func TestALongClause(t *testing.T) {
	const n = api.MaxLits
	var c []int
	for v := 1; v <= n; v++ {
		c = append(c, -v)
	}
	f := append(links(n-1), c)
	m := open(n)
	m[0] = 1
	want := slices.Repeat([]int{1}, n)
	want[n-1] = -1
	if got, clash, e := Run(n, f, m); !slices.Equal(got, want) || clash || e != api.OK {
		t.Errorf("a long clause: %d truths, %v, %v", len(got), clash, e)
	}
	m[n-1] = 1
	if got, clash, e := Run(n, f, m); len(got) != 0 || !clash || e != api.OK {
		t.Errorf("a long clause that can't hold: %d truths, %v, %v", len(got), clash, e)
	}
}

func TestAllSmallFormulas(t *testing.T) {
	all := clauses(3, 2)
	var starts [][]int
	truths(3, func(m []int) { starts = append(starts, m) })
	check := func(f [][]int) {
		for _, m := range starts {
			want, clash := plainly(f, m, inOrder(f))
			same(t, 3, f, m, want, clash)
		}
	}
	check(nil)
	for _, c := range all {
		check([][]int{c})
		for _, d := range all {
			check([][]int{c, d})
		}
	}
}

// TestAllSmallClauses: of up to four literals, alone.
func TestAllSmallClauses(t *testing.T) {
	for _, c := range clauses(3, 4) {
		truths(3, func(m []int) {
			f := [][]int{c}
			want, clash := plainly(f, m, inOrder(f))
			same(t, 3, f, m, want, clash)
		})
	}
}

// TestAnyOrder: what follows is one, in whatever order clauses and literals stand, and in whatever order it is looked for.
func TestAnyOrder(t *testing.T) {
	r := rand.New(rand.NewSource(55))
	some, none := 0, 0
	for range 4000 {
		n := 1 + r.Intn(9)
		f, m := random(r, n, r.Intn(2*n+2))
		want, clash := plainly(f, m, func() []int { return r.Perm(len(f)) })
		same(t, n, f, m, want, clash)
		for range 3 {
			same(t, n, shuffled(r, f), m, want, clash)
		}
		if clash {
			none++
		} else if !slices.Equal(want, m) {
			some++
		}
	}
	if some < 500 || none < 500 {
		t.Errorf("of 4000 formulas %d tell something, %d can't hold", some, none)
	}
}

// TestAgain: from what is assigned at last nothing follows that was not.
func TestAgain(t *testing.T) {
	r := rand.New(rand.NewSource(555))
	for range 1000 {
		n := 1 + r.Intn(30)
		f, m := random(r, n, r.Intn(n))
		if got, clash, _ := Run(n, f, m); !clash {
			follows(t, n, f, got, got...)
		}
	}
}
