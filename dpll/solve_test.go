package dpll

import (
	"math"
	"math/rand"
	"slices"
	"testing"

	"crossroads/api"
)

func TestTheKinds(t *testing.T) {
	if Sat != 1 || Unsat != 2 || Unknown != 3 {
		t.Errorf("Sat %d, Unsat %d, Unknown %d", Sat, Unsat, Unknown)
	}
}

func TestTheExample(t *testing.T) {
	is(t, Unsat, 2, [][]int{{1, 2}, {-1}, {-2}}, enough(2)...)
}

// TestAFormulaWithoutClauses: it holds, whatever the budget.
func TestAFormulaWithoutClauses(t *testing.T) {
	for _, n := range []int{0, 1, 2, 3, 24, 25, 63, 64, 65, api.MaxLits} {
		for _, f := range [][][]int{nil, {}, make([][]int, 0, 3)} {
			is(t, Sat, n, f, append(enough(n), 0, 1, 2, n, 1<<39)...)
		}
	}
}

// TestAClauseWithoutLiterals: it never holds, whatever the budget, and whatever stands beside it.
func TestAClauseWithoutLiterals(t *testing.T) {
	for _, n := range []int{0, 1, 2, 3, 24, 25, 63, 64, 65, api.MaxLits} {
		all := append(enough(n), 0, 1, 2, n, 1<<39)
		for _, f := range [][][]int{{nil}, {{}}, {{}, nil}} {
			is(t, Unsat, n, f, all...)
		}
		if n > 1 {
			for _, f := range [][][]int{{{1}, {}}, {nil, {1}}, {{1, n}, {}, {-1, -n}}, {{1, -1}, nil}, {{1, n}, {-1, n}, {1, -n}, {}}} {
				is(t, Unsat, n, f, all...)
			}
		}
	}
}

// TestOneLiteral: of n numbers each.
func TestOneLiteral(t *testing.T) {
	for _, n := range []int{1, 2, 3, 64, api.MaxLits} {
		for _, v := range []int{1, (n + 1) / 2, n} {
			for _, l := range []int{v, -v} {
				_, m, _ := Solve(n, [][]int{{l}}, 1<<40)
				if len(m) != n || m[v-1] != (l > 0) {
					t.Errorf("the literal %d of %d", l, n)
				}
				is(t, Sat, n, [][]int{{l}, {l, l}, {l}}, enough(n)...)
				is(t, Unsat, n, [][]int{{l}, {-l}}, enough(n)...)
			}
		}
	}
}

// TestOneClause: of any length and signs it holds, and does not where each of its literals is asked for the other way.
func TestOneClause(t *testing.T) {
	r := rand.New(rand.NewSource(1))
	for n := 1; n <= 30; n++ {
		for s := range 8 {
			var c []int
			for v := 1; v <= n; v++ {
				l := v
				if s == 1 || s > 1 && r.Intn(2) == 0 {
					l = -v
				}
				c = append(c, l)
			}
			r.Shuffle(n*(s/4), func(i, k int) { c[i], c[k] = c[k], c[i] })
			is(t, Sat, n, [][]int{c}, enough(n)...)
			f := [][]int{c}
			for _, l := range c {
				f = append(f, []int{-l})
			}
			is(t, Unsat, n, f, enough(n)...)
			is(t, Sat, n, f[:n], enough(n)...)
		}
	}
}

// TestALiteralTwice: alike ones are one; one both ways holds always.
func TestALiteralTwice(t *testing.T) {
	for _, f := range [][][]int{
		{{1, 1}}, {{-1, -1, -1}}, {{1, -1}}, {{-1, 1}, {1, -1}}, {{1, 1, 2, 2}, {-1, -1}}, {{1, -1, 2}, {-2, -2}}, {{2, 1, 2, 1}, {-1, 2, -1}, {1, -2, 1}}, {{1, -1}, {2, -2}, {3, -3}},
		{{1, 2, -1}, {1, 3, 3}, {-3, -3}},
	} {
		is(t, Sat, 3, f, enough(3)...)
	}
	for _, f := range [][][]int{
		{{1, 1}, {-1, -1}}, {{1, -1}, {2}, {-2, -2}}, {{1, 1, 2, 2}, {-1, -1, 2}, {1, -2, -2}, {-2, -1, -2}}, {{1, -1, 2}, {3, 3}, {-3, -3, -3}},
	} {
		is(t, Unsat, 3, f, enough(3)...)
	}
	is(t, Sat, 3, [][]int{{1, -1}, {2, -2}, {-3, 3, 3}}, 0)
}

// TestAllButOne: of all lists of truths but one each is forbidden; that one is found, and without it none.
func TestAllButOne(t *testing.T) {
	for n := 1; n <= 7; n++ {
		var f [][]int
		for x := range 1 << n {
			var c []int
			for v := range n {
				c = append(c, (v+1)*(1-2*(x>>v&1)))
			}
			f = append(f, c)
		}
		is(t, Unsat, n, f, enough(n)...)
		for x := range 1 << n {
			f[0], f[x] = f[x], f[0]
			is(t, Sat, n, f[1:], enough(n)...)
			f[0], f[x] = f[x], f[0]
		}
	}
}

// against fails the test where Solve of f with budget enough is not what all lists of truths say, or says anything else with a smaller one.
func against(t *testing.T, n int, f [][]int, budgets ...int) {
	t.Helper()
	want := wantOf(models(n, f))
	is(t, want, n, f, 1<<n, 1<<40)
	for _, b := range budgets {
		if k := kind(t, n, f, b); k != want && (k != Unknown || b >= 1<<n) {
			t.Errorf("Solve(%d, %v, %d) = %d, want %d", n, f, b, k, want)
		}
	}
}

func TestAllSmallFormulas(t *testing.T) {
	formulas(clauses(2, 2), 3, func(f [][]int) { against(t, 2, f, 0, 1, 2, 3) })
	formulas(clauses(3, 2), 2, func(f [][]int) { against(t, 3, f, 0, 1, 2, 3, 7) })
	formulas(clauses(1, 3), 3, func(f [][]int) { against(t, 1, f, 0, 1, 2) })
	formulas(clauses(4, 4), 1, func(f [][]int) { against(t, 4, f, 0, 1, 2, 3) })
}

// TestSomeFormulas: of few numbers, with few clauses and many, short ones and long; how many of them hold is seen to.
func TestSomeFormulas(t *testing.T) {
	r := rand.New(rand.NewSource(61))
	sat, unsat := 0, 0
	for range 3000 {
		n := 1 + r.Intn(9)
		f := random(r, n, r.Intn(6*n), 1+r.Intn(3), 3+r.Intn(5))
		against(t, n, f, 0, 1, 2, 5, 1<<n-1, math.MaxInt)
		if models(n, f) > 0 {
			sat++
		} else {
			unsat++
		}
	}
	if sat < 500 || unsat < 500 {
		t.Errorf("%d formulas hold under some truths, %d under none", sat, unsat)
	}
}

// TestAgainstCount: of more numbers, where about half of the formulas hold.
func TestAgainstCount(t *testing.T) {
	r := rand.New(rand.NewSource(62))
	for range 400 {
		n := 12 + r.Intn(13)
		f := random(r, n, 4*n+r.Intn(n/2), 3, 3)
		k, e := Count(n, f, 1)
		if e != api.OK {
			t.Fatal(e)
		}
		is(t, wantOf(k), n, f, 1<<n, 1<<40)
	}
}

// TestAnyOrder: whether there are truths does not hang on how clauses and literals stand.
func TestAnyOrder(t *testing.T) {
	r := rand.New(rand.NewSource(63))
	for range 100 {
		n := 5 + r.Intn(40)
		f := random(r, n, 4*n, 3, 3)
		want := kind(t, n, f, 1<<40)
		for range 4 {
			is(t, want, n, shuffled(r, f), 1<<40)
		}
	}
}

// TestTheSameAnswer: the same call again answers the same truths.
func TestTheSameAnswer(t *testing.T) {
	r := rand.New(rand.NewSource(64))
	for range 100 {
		n := 3 + r.Intn(60)
		f := random(r, n, 3*n, 3, 4)
		k1, m1, e1 := Solve(n, f, 1<<40)
		k2, m2, e2 := Solve(n, f, 1<<40)
		if k1 != k2 || e1 != e2 || !slices.Equal(m1, m2) {
			t.Errorf("Solve(%d, %v) answers one thing, then another", n, f)
		}
	}
}
