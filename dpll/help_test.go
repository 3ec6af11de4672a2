package dpll

import (
	"math"
	"math/rand"
	"slices"
	"testing"

	"crossroads/api"
)

// holds tells whether each clause of f has a literal that is so in m.
func holds(f [][]int, m []bool) bool {
	for _, c := range f {
		if !slices.ContainsFunc(c, func(l int) bool { return l > 0 && m[l-1] || l < 0 && !m[-l-1] }) {
			return false
		}
	}
	return true
}

// models answers under how many lists of n truths f holds, of all that there are.
func models(n int, f [][]int) int {
	k, m := 0, make([]bool, n)
	for x := range 1 << n {
		for v := range m {
			m[v] = x>>v&1 == 1
		}
		if holds(f, m) {
			k++
		}
	}
	return k
}

// show is f in as far as it can be read.
func show(f [][]int) any {
	if len(f) > 40 || slices.ContainsFunc(f, func(c []int) bool { return len(c) > 40 }) {
		return "a long formula"
	}
	return f
}

// kind answers what Solve says of f, and fails the test where that is none of the three answers, or its truths are not as many as the answer asks for, or a clause does not hold under them.
func kind(t *testing.T, n int, f [][]int, budget int) int {
	t.Helper()
	k, m, e := Solve(n, f, budget)
	switch {
	case e != api.OK, k != Sat && k != Unsat && k != Unknown:
		t.Errorf("Solve(%d, %v, %d) = %d, %v", n, show(f), budget, k, e)
	case k != Sat && len(m) != 0:
		t.Errorf("Solve(%d, %v, %d): %d truths beside %d", n, show(f), budget, len(m), k)
	case k == Sat && len(m) != n:
		t.Errorf("Solve(%d, %v, %d): %d truths", n, show(f), budget, len(m))
	case k == Sat && !holds(f, m):
		t.Errorf("Solve(%d, %v, %d): a clause does not hold", n, show(f), budget)
	}
	return k
}

// is fails the test where Solve of f says anything but want at all these budgets.
func is(t *testing.T, want, n int, f [][]int, budgets ...int) {
	t.Helper()
	for _, b := range budgets {
		if k := kind(t, n, f, b); k != want {
			t.Errorf("Solve(%d, %v, %d) = %d, want %d", n, show(f), b, k, want)
		}
	}
}

// enough are budgets with which nothing over n numbers is Unknown.
func enough(n int) []int {
	l := []int{1 << 40, 1<<40 + 1, math.MaxInt}
	if n <= 40 {
		l = append(l, 1<<n, 1<<n+1)
	}
	return l
}

// wantOf is what Solve says of f with budget enough, if f has that many models.
func wantOf(models int) int {
	if models == 0 {
		return Unsat
	}
	return Sat
}

// clauses are those of up to that many literals over the numbers 1 to n.
func clauses(n, most int) (all [][]int) {
	var next func(c []int)
	next = func(c []int) {
		all = append(all, c)
		if len(c) == most {
			return
		}
		for v := 1; v <= n; v++ {
			next(append(slices.Clone(c), v))
			next(append(slices.Clone(c), -v))
		}
	}
	next(nil)
	return all
}

// formulas calls f with each formula of up to that many of these clauses.
func formulas(of [][]int, most int, f func(f [][]int)) {
	var next func(g [][]int)
	next = func(g [][]int) {
		f(g)
		if len(g) < most {
			for _, c := range of {
				next(append(slices.Clone(g), c))
			}
		}
	}
	next(nil)
}

// random answers a formula of k clauses of least to most literals over the numbers 1 to n; one may stand in a clause twice, or both ways.
func random(r *rand.Rand, n, k, least, most int) (f [][]int) {
	for range k {
		c := make([]int, least+r.Intn(most-least+1))
		for i := range c {
			c[i] = (1 + r.Intn(n)) * (1 - 2*r.Intn(2))
		}
		f = append(f, c)
	}
	return f
}

// planted answers a formula of k clauses of three literals over the numbers 1 to n that holds under some truths.
func planted(r *rand.Rand, n, k int) (f [][]int) {
	m := make([]bool, n)
	for v := range m {
		m[v] = r.Intn(2) == 0
	}
	for len(f) < k {
		if c := random(r, n, 1, 3, 3); holds(c, m) {
			f = append(f, c[0])
		}
	}
	return f
}

// holes is a formula that puts each of that many pigeons into one of that many holes, no two into one: how many numbers it has, and its clauses.
func holes(pigeons, holes int) (int, [][]int) {
	in := func(p, h int) int { return p*holes + h + 1 }
	var f [][]int
	for p := range pigeons {
		var c []int
		for h := range holes {
			c = append(c, in(p, h))
			for q := range p {
				f = append(f, []int{-in(p, h), -in(q, h)})
			}
		}
		f = append(f, c)
	}
	return pigeons * holes, f
}

// xor are the clauses that ask for an odd number of v's that are true, or, if odd does not hold, for an even one.
func xor(odd bool, v ...int) (f [][]int) {
	for x := range 1 << len(v) {
		c, turned := slices.Clone(v), !odd
		for i := range c {
			if x>>i&1 == 1 {
				c[i], turned = -c[i], !turned
			}
		}
		if !turned {
			f = append(f, c)
		}
	}
	return f
}

// odd is a formula over all of l and ever new numbers from next on, whose last one is true just where an odd number of l are; it answers the number behind that.
func odd(l []int, next int) ([][]int, int) {
	var f [][]int
	sum := l[0]
	for _, v := range l[1:] {
		f = append(f, xor(false, sum, v, next)...)
		sum = next
		next++
	}
	return f, next
}

// links are the clauses by which v+1 follows from v, for each v from 1 to below n.
func links(n int) (f [][]int) {
	for v := 1; v < n; v++ {
		f = append(f, []int{-v, v + 1})
	}
	return f
}

// shuffled is f with its clauses, and the literals of each of them, in another order.
func shuffled(r *rand.Rand, f [][]int) [][]int {
	g := make([][]int, len(f))
	for i, k := range r.Perm(len(f)) {
		c := slices.Clone(f[k])
		r.Shuffle(len(c), func(i, k int) { c[i], c[k] = c[k], c[i] })
		g[i] = c
	}
	return g
}
