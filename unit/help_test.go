package unit

import (
	"math/rand"
	"slices"
	"testing"

	"crossroads/api"
)

// follows fails the test where what follows from m in f is not want.
func follows(t *testing.T, n int, f [][]int, m []int, want ...int) {
	t.Helper()
	got, clash, e := Run(n, f, m)
	if !slices.Equal(got, want) || clash || e != api.OK {
		t.Errorf("Run(%d, %v, %v) = %v, %v, %v; want %v", n, f, m, got, clash, e, want)
	}
}

// clashes fails the test where f can hold from m on, or something is assigned then.
func clashes(t *testing.T, n int, f [][]int, m []int) {
	t.Helper()
	got, clash, e := Run(n, f, m)
	if len(got) != 0 || !clash || e != api.OK {
		t.Errorf("Run(%d, %v, %v) = %v, %v, %v; want a contradiction", n, f, m, got, clash, e)
	}
}

// refused fails the test where Run is not refused, or answers something beside that.
func refused(t *testing.T, n int, f [][]int, m []int) {
	t.Helper()
	got, clash, e := Run(n, f, m)
	if len(got) != 0 || clash || e != api.ErrArg {
		t.Errorf("Run(%d, %v, %v): %d truths, %v, %v; want ErrArg", n, f, m, len(got), clash, e)
	}
}

// open is a list of n truths that are not known.
func open(n int) []int { return make([]int, n) }

// truths calls f with each list of n truths.
func truths(n int, f func(m []int)) {
	var next func(m []int)
	next = func(m []int) {
		if len(m) == n {
			f(m)
			return
		}
		for _, t := range []int{-1, 0, 1} {
			next(append(slices.Clone(m), t))
		}
	}
	next(nil)
}

// clauses are those of up to that many literals over the numbers 1 to n.
func clauses(n, most int) (all [][]int) {
	var next func(c []int)
	next = func(c []int) {
		all = append(all, c)
		if len(c) == most {
			return
		}
		for v := 1; v <= n; v++ {
			next(append(slices.Clone(c), v))
			next(append(slices.Clone(c), -v))
		}
	}
	next(nil)
	return all
}

// state tells of a clause under m: whether a literal of it holds, and those that are open, each once.
func state(c, m []int) (holds bool, open []int) {
	for _, l := range c {
		v, is := l, 1
		if l < 0 {
			v, is = -l, -1
		}
		if m[v-1] == is {
			holds = true
		} else if m[v-1] == 0 && !slices.Contains(open, l) {
			open = append(open, l)
		}
	}
	return holds, open
}

// plainly is what Run says, by the words of the chapter; order tells where in f it looks first each time.
func plainly(f [][]int, m []int, order func() []int) ([]int, bool) {
	m = slices.Clone(m)
	for more := true; more; {
		more = false
		for _, i := range order() {
			if holds, open := state(f[i], m); !holds && len(open) == 1 {
				v := max(open[0], -open[0])
				m[v-1], more = open[0]/v, true
				break
			}
		}
	}
	for _, c := range f {
		if holds, open := state(c, m); !holds && len(open) == 0 {
			return nil, true
		}
	}
	return m, false
}

// inOrder answers the order of f itself.
func inOrder(f [][]int) func() []int {
	all := make([]int, len(f))
	for i := range all {
		all[i] = i
	}
	return func() []int { return all }
}

// same fails the test where Run of f and m is not what plainly answered.
func same(t *testing.T, n int, f [][]int, m, want []int, clash bool) {
	t.Helper()
	if clash {
		clashes(t, n, f, m)
	} else {
		follows(t, n, f, m, want...)
	}
}

// random answers a formula of k clauses of up to three literals over the numbers 1 to n, and where to begin.
func random(r *rand.Rand, n, k int) (f [][]int, m []int) {
	for range k {
		c := make([]int, 1+r.Intn(3))
		for i := range c {
			c[i] = (1 + r.Intn(n)) * (1 - 2*r.Intn(2))
		}
		f = append(f, c)
	}
	m = open(n)
	for range r.Intn(4) {
		m[r.Intn(n)] = 1 - 2*r.Intn(2)
	}
	return f, m
}

// shuffled is f with its clauses, and the literals of each of them, in another order.
func shuffled(r *rand.Rand, f [][]int) [][]int {
	g := make([][]int, len(f))
	for i, k := range r.Perm(len(f)) {
		c := slices.Clone(f[k])
		r.Shuffle(len(c), func(i, k int) { c[i], c[k] = c[k], c[i] })
		g[i] = c
	}
	return g
}
