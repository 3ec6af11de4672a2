package dpll

import (
	"math/rand"
	"slices"
	"testing"

	"crossroads/api"
)

// TestLongChains: of as many numbers as there may be, in any order.
func TestLongChains(t *testing.T) {
	const n = api.MaxLits
	r := rand.New(rand.NewSource(7))
	round := append(links(n), []int{-n, 1})
	for _, f := range [][][]int{round, shuffled(r, round)} {
		is(t, Sat, n, f[:n-1], 1<<40)
		is(t, Sat, n, f, 1<<40)
		is(t, Sat, n, append(slices.Clone(f), []int{1, n / 2, n}), 1<<40)
		is(t, Sat, n, append(slices.Clone(f), []int{-7, -n / 2}), 1<<40)
		is(t, Unsat, n, append(slices.Clone(f), []int{1, n / 2, n}, []int{-7, -n / 2}), 1<<40)
		is(t, Unsat, n, append(slices.Clone(f), []int{5}, []int{-n}), 0, 1<<40)
	}
}

// TestALongClause: of all numbers, of which each asks for the next.
func TestALongClause(t *testing.T) {
	const n = api.MaxLits
	var c, turned []int
	for v := n; v >= 1; v-- {
		c, turned = append(c, v), append(turned, -v)
	}
	is(t, Sat, n, [][]int{c}, 1<<40)
	is(t, Sat, n, [][]int{turned}, 1<<40)
	is(t, Sat, n, [][]int{c, turned}, 1<<40)
	f := append(links(n), c)
	_, m, _ := Solve(n, f, 1<<40)
	if len(m) != n || !m[n-1] {
		t.Error("a long clause asks for nothing")
	}
	is(t, Unsat, n, append(f, []int{-n}), 0, 1<<40)
	is(t, Sat, n, append(links(n), turned), 1<<40)
	is(t, Unsat, n, append(links(n), turned, []int{1}), 0, 1<<40)
}

// among is f with its numbers that many times as high.
func among(f [][]int, times int) [][]int {
	var g [][]int
	for _, c := range f {
		d := slices.Clone(c)
		for i := range d {
			d[i] *= times
		}
		g = append(g, d)
	}
	return g
}

// TestManyNumbers: clauses of numbers that stand far from each other hold under some truths, and under none once a few are among them that don't.
func TestManyNumbers(t *testing.T) {
	r := rand.New(rand.NewSource(8))
	_, small := holes(5, 4)
	for _, n := range []int{1000, 10000, api.MaxLits} {
		f := planted(r, n, 2*n)
		is(t, Sat, n, f, 1<<40)
		is(t, Unsat, n, shuffled(r, append(f, among(small, n/20)...)), 1<<40)
	}
}

// TestPigeons: they have room in as many holes, and in no fewer.
func TestPigeons(t *testing.T) {
	for h := range 8 {
		n, f := holes(h+1, h)
		is(t, Unsat, n, f, 1<<n, 1<<40)
		n, f = holes(h, h)
		is(t, Sat, n, f, 1<<n, 1<<40)
	}
	n, f := holes(30, 40)
	is(t, Sat, n, f, 1<<40)
}

// TestOddAndEven: how many of some numbers are true, added up in two orders, is odd both times or even both times.
func TestOddAndEven(t *testing.T) {
	r := rand.New(rand.NewSource(9))
	for n := 2; n <= 16; n++ {
		l := r.Perm(n)
		for i := range l {
			l[i]++
		}
		f, next := odd(l, n+1)
		slices.Sort(l)
		g, end := odd(l, next)
		f = append(f, g...)
		for _, way := range []bool{true, false} {
			is(t, Sat, end-1, append(slices.Clone(f), xor(way, next-1)...), 1<<40)
		}
		is(t, Sat, end-1, append(slices.Clone(f), xor(false, next-1, end-1)...), 1<<40)
		is(t, Unsat, end-1, append(slices.Clone(f), xor(true, next-1, end-1)...), 1<<40)
	}
}

// TestTwoLongSums: many numbers, added up twice in one order.
func TestTwoLongSums(t *testing.T) {
	const n = 4000
	var l []int
	for v := 1; v <= n; v++ {
		l = append(l, v)
	}
	f, next := odd(l, n+1)
	g, end := odd(l, next)
	f = append(f, g...)
	is(t, Sat, end-1, append(slices.Clone(f), xor(true, next-1)...), 1<<40)
	is(t, Unsat, end-1, append(slices.Clone(f), xor(true, next-1, end-1)...), 1<<40)
}

// TestHardFormulas: so hard that what was learned is forgotten again.
func TestHardFormulas(t *testing.T) {
	r := rand.New(rand.NewSource(10))
	for range 3 {
		is(t, Unsat, 200, random(r, 200, 1000, 3, 3), 1<<40)
		is(t, Sat, 200, planted(r, 200, 820), 1<<40)
	}
}
