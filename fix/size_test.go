package fix

import (
	"math/rand"
	"testing"

	"crossroads/api"
	"crossroads/term"
)

func TestSize(t *testing.T) {
	m := start(t)
	c, x, y, k := m.id(1, 0), m.id(8, 1), m.id(8, 2), m.num(8, 7)
	sum := m.two(api.Add, x, y)
	twice := m.two(api.Mul, sum, sum)
	for _, s := range []struct {
		x    term.T
		want int
	}{
		{c, 1}, {x, 1}, {k, 1}, {m.not(k), 1}, {m.not(x), 2}, {m.ext(16, x), 2}, {m.cut(1, x), 2}, {m.ext(8, x), 1},
		{sum, 3}, {m.two(api.Xor, x, x), 2}, {m.two(api.Sub, x, k), 3}, {twice, 4}, {m.two(api.Div, twice, sum), 5}, {m.two(api.Div, twice, x), 5},
		{m.ite(c, x, y), 4}, {m.ite(c, x, k), 4}, {m.ite(c, sum, x), 5}, {m.ite(m.not(c), twice, sum), 7}, {m.not(m.not(twice)), 6},
		{m.two(api.And, c, m.two(api.Lt, x, m.not(x))), 5},
	} {
		if n := Size(m.Arena, s.x); n != s.want {
			node, _ := m.Node(s.x)
			t.Errorf("Size of %+v = %d, want %d", node, n, s.want)
		}
	}
}

func TestSizeOfNone(t *testing.T) {
	m := start(t)
	m.not(m.id(8, 0))
	for _, x := range none(m.Arena) {
		if n := Size(m.Arena, x); n != 0 {
			t.Errorf("Size(%d) = %d, of none", x, n)
		}
	}
	for _, x := range []term.T{-1, 0, 1} {
		if n := Size(nil, x); n != 0 {
			t.Errorf("Size(nil, %d) = %d", x, n)
		}
		if n := Size(new(term.Arena), x); n != 0 {
			t.Errorf("Size of an empty arena's %d = %d", x, n)
		}
	}
}

// TestSizeOfRandomTerms: each node that can be reached, once.
func TestSizeOfRandomTerms(t *testing.T) {
	for seed := range int64(40) {
		m := start(t)
		l := m.growth(rand.New(rand.NewSource(seed)), 200)
		n := m.Len()
		for _, x := range l {
			seen := map[term.T]bool{}
			var reach func(x term.T)
			reach = func(x term.T) {
				if node, ok := m.Node(x); ok && !seen[x] {
					seen[x] = true
					reach(node.A)
					reach(node.B)
					reach(node.C)
				}
			}
			reach(x)
			if got := Size(m.Arena, x); got != len(seen) {
				t.Fatalf("seed %d: Size(%d) = %d, want %d", seed, x, got, len(seen))
			}
		}
		if m.Len() != n {
			t.Errorf("seed %d: Size makes %d nodes", seed, m.Len()-n)
		}
	}
}

// TestSizeOfWhatStandsInMany: there are 2^n ways through such a term, and it is as deep as there is room for.
func TestSizeOfWhatStandsInMany(t *testing.T) {
	m := start(t)
	x := m.id(16, 0)
	for n := 1; n <= api.MaxTerms; n++ {
		if n%997 == 1 || n == api.MaxTerms {
			if got := Size(m.Arena, x); got != n {
				t.Fatalf("Size = %d, want %d", got, n)
			}
		}
		if n < api.MaxTerms {
			x = m.two(api.Add, x, x)
		}
	}
}
