package dpll

import (
	"math/rand"
	"testing"
)

// TestUnknown: what takes many decisions is not known with few; once there are enough, no more changes the answer.
func TestUnknown(t *testing.T) {
	n, f := holes(6, 5)
	is(t, Unknown, n, f, 0, 1, 2, 3)
	is(t, Unsat, n, f, 1<<n, 1<<40)
	n, f = holes(6, 6)
	is(t, Unknown, n, f, 0, 1)
	is(t, Sat, n, f, 1<<n, 1<<40)
	f = planted(rand.New(rand.NewSource(6)), 200, 700)
	is(t, Unknown, 200, f, 0, 1)
	is(t, Sat, 200, f, 1<<40)
}

// needed answers the least budget with which Solve of f is not Unknown, and fails the test where it is once more with a greater one, or the answer is another.
func needed(t *testing.T, n int, f [][]int, most int) int {
	t.Helper()
	want, least := kind(t, n, f, 1<<40), -1
	for b := range most + 1 {
		switch k := kind(t, n, f, b); {
		case k == want && least < 0:
			least = b
		case k != want && (least >= 0 || k != Unknown):
			t.Errorf("Solve(%d, %v, %d) = %d; want %d from %d on", n, show(f), b, k, want, least)
		}
	}
	return least
}

// TestMoreDecisionsKnowMore: of few numbers from 2^n on nothing is Unknown.
func TestMoreDecisionsKnowMore(t *testing.T) {
	r := rand.New(rand.NewSource(65))
	for range 1500 {
		n := 1 + r.Intn(6)
		f := random(r, n, r.Intn(6*n), 2, 3)
		if b := needed(t, n, f, 1<<n+3); b < 0 || b > 1<<n {
			t.Errorf("Solve(%d, %v) takes a budget of %d", n, f, b)
		}
	}
}

// TestBudgetsOfMoreNumbers: one less than it takes is too few.
func TestBudgetsOfMoreNumbers(t *testing.T) {
	some := 0
	r := rand.New(rand.NewSource(66))
	for range 40 {
		n := 10 + r.Intn(30)
		if b := needed(t, n, random(r, n, 4*n, 3, 3), 300); b > 3 {
			some++
		}
	}
	if some < 10 {
		t.Errorf("%d formulas take more than 3 decisions", some)
	}
}

// TestNoDecisions: what follows at once takes none, whatever it is.
func TestNoDecisions(t *testing.T) {
	for _, f := range [][][]int{{{1}}, {{-3}}, {{1}, {-1, 2}, {-2, -3}}, {{1, 2, 3}, {-1}, {-2}}, {{1, -1}, {2, -2, 3}}, {{1}, {1, 2}, {1, -3}}} {
		is(t, Sat, 3, f, append(enough(3), 0, 1)...)
	}
	for _, f := range [][][]int{{{1}, {-1}}, {{1, 2}, {-1}, {-2}}, {{1}, {-1, 2}, {-1, -2}}, {{3}, {-3, 1}, {-3, 2}, {-1, -2, -3}}} {
		is(t, Unsat, 3, f, append(enough(3), 0, 1)...)
	}
}

// TestGranted: from 2^n on, and from 2^40 on, as many as it takes.
func TestGranted(t *testing.T) {
	for _, n := range []int{0, 1, 2, 24, 39, 40, 41, 63, 64, 65, 1 << 16} {
		all := 1 << min(n, 40)
		for _, b := range []int{0, 1, 2, 3, all / 2, all - 1} {
			if b < all && granted(n, b) != b {
				t.Errorf("granted(%d, %d) = %d", n, b, granted(n, b))
			}
		}
		for _, b := range append(enough(n), all, all+1, 2*all) {
			if granted(n, b) < 1<<62 {
				t.Errorf("granted(%d, %d) = %d", n, b, granted(n, b))
			}
		}
	}
}
