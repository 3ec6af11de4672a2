package dpll

import (
	"math/rand"
	"slices"
	"testing"

	"crossroads/unit"
)

// begun is a search in f, whose numbers are 1 to n, of which none is known.
func begun(n int, f [][]int) *search { return newSearch(f, make([]int, n)) }

// worths fails the test where what is gone, open or holds is not what the trail says.
func worths(t *testing.T, s *search) {
	t.Helper()
	want := make([]int8, len(s.worth))
	for _, l := range s.trail {
		want[l], want[l.other()] = 1, -1
	}
	if !slices.Equal(s.worth, want) {
		t.Errorf("worth %v, trail %v", s.worth, s.trail)
	}
}

// TestTakingBackInOrder: the last decision first, with what came of it, and no more.
func TestTakingBackInOrder(t *testing.T) {
	s := begun(8, [][]int{{-1, 2}, {-3, -4}, {-1, -3, 5}, {-6, 7}, {-6, -7, -8}, {6, 8}})
	var trails [][]literal
	for _, l := range []int{1, 3, -8} {
		trails = append(trails, slices.Clone(s.trail))
		s.decide(literalOf(l))
		if s.follow() != none {
			t.Fatal("a clash")
		}
		worths(t, s)
	}
	var now []int
	for _, l := range []int{1, 2, 3, -4, 5, -8, 6, 7} {
		now = append(now, int(literalOf(l)))
	}
	if got := len(s.trail); got != len(now) || len(s.marks) != 3 {
		t.Fatalf("%d came of three decisions", got)
	}
	for k := 2; k >= 0; k-- {
		gone := slices.Clone(s.trail[len(trails[k]):])
		s.takeBack(k)
		if !slices.Equal(s.trail, trails[k]) || len(s.marks) != k || s.next != len(s.trail) {
			t.Errorf("taken back to %d decisions: %v, want %v", k, s.trail, trails[k])
		}
		worths(t, s)
		for _, l := range gone {
			if s.liked[l.number()] != l || s.queue.place[l.number()] == none {
				t.Errorf("%d is not asked for again, or the other way", l)
			}
		}
	}
}

// TestTakingBackSome: of many decisions the last ones at once; those ahead of them stand.
func TestTakingBackSome(t *testing.T) {
	s := begun(6, [][]int{{1, 2, 3, 4, 5, 6}})
	for _, l := range []int{4, -2, 6, 1} {
		s.decide(literalOf(l))
	}
	s.takeBack(4)
	s.takeBack(2)
	if want := []literal{literalOf(4), literalOf(-2)}; !slices.Equal(s.trail, want) || !slices.Equal(s.marks, []int{0, 1}) {
		t.Errorf("trail %v, marks %v", s.trail, s.marks)
	}
	worths(t, s)
	for _, l := range []int{1, 6} {
		if s.liked[literalOf(l).number()] != literalOf(l) {
			t.Errorf("%d was another", l)
		}
	}
}

// TestWhatIsLearned follows from the formula, and hangs on at least one decision.
func TestWhatIsLearned(t *testing.T) {
	r := rand.New(rand.NewSource(13))
	learned := 0
	for range 300 {
		n := 9 + r.Intn(4)
		f := random(r, n, 5*n, 3, 4)
		known, clash, _ := unit.Run(n, f, make([]int, n))
		if clash {
			continue
		}
		s := newSearch(f, known)
		s.run(1 << n)
		for _, c := range s.claims {
			if c.spread == 0 {
				continue
			}
			learned++
			var turned [][]int
			for _, l := range c.literals {
				turned = append(turned, []int{-whole(l)})
			}
			if models(n, append(turned, f...)) > 0 {
				t.Fatalf("%v does not follow from %v", turned, f)
			}
		}
	}
	if learned < 300 {
		t.Errorf("%d claims were learned", learned)
	}
}

// whole is l as a whole number with a sign.
func whole(l literal) int {
	v := int(l.number()) + 1
	if l&1 == 1 {
		return -v
	}
	return v
}

func TestLiterals(t *testing.T) {
	for v := 1; v <= 1<<16; v++ {
		for _, l := range []int{v, -v} {
			x := literalOf(l)
			if whole(x) != l || x.other() != literalOf(-l) || x < 0 || x >= 1<<17 {
				t.Fatalf("%d is %d", l, x)
			}
		}
	}
}

// worked is a search in f, whose numbers are 1 to n, that made that many decisions and waits for more.
func worked(t *testing.T, n int, f [][]int, decisions int) *search {
	t.Helper()
	s := begun(n, f)
	if s.run(decisions) != Unknown {
		t.Fatal("no work is left")
	}
	for v := range int32(n) {
		s.queue.add(v) // one was taken that could not be decided any more
	}
	return s
}

// TestForgetting: with all, some or none of what was learned, the answer stays; and what a search has forgotten it does not look at.
func TestForgetting(t *testing.T) {
	n, f := holes(6, 5)
	for part := range 3 {
		s := worked(t, n, f, 60)
		s.takeBack(0)
		given := len(f)
		l := s.learned()
		if len(l) < 10 {
			t.Fatalf("%d claims may be forgotten", len(l))
		}
		all := len(s.claims)
		gone := l[len(l)*part/2:]
		s.forget(gone)
		if len(s.claims) != all-len(gone) || slices.ContainsFunc(s.claims, func(c claim) bool { return len(c.literals) < 2 }) {
			t.Errorf("%d claims of %d, without %d", len(s.claims), all, len(gone))
		}
		watched := 0
		for _, w := range s.watches {
			watched += len(w)
		}
		if watched != 2*len(s.claims) || len(s.claims) < given {
			t.Errorf("%d claims, %d watches", len(s.claims), watched)
		}
		if k := s.run(1 << 30); k != Unsat {
			t.Errorf("once %d were forgotten: %d", len(gone), k)
		}
	}
}

// TestWhatIsForgotten: what hung on many decisions and is long, ahead of the rest; never what the formula says.
func TestWhatIsForgotten(t *testing.T) {
	s := begun(4, [][]int{{1, 2}, {3, 4}})
	for _, c := range []struct{ literals, spread int }{{4, 4}, {3, 2}, {3, 4}, {9, 3}, {3, 4}, {2, 1}} {
		s.claim(make([]literal, c.literals), c.spread)
	}
	if l := s.learned(); !slices.Equal(l, []int32{5, 4, 6, 2}) {
		t.Errorf("in this order: %v", l)
	}
}

// TestStartingOver: no decision stands any more, and half of what may be forgotten is, but only where it is too much.
func TestStartingOver(t *testing.T) {
	n, f := holes(6, 5)
	s := worked(t, n, f, 60)
	l := len(s.learned())
	if s.pace.learned != l || l < 10 {
		t.Fatalf("%d claims that may be forgotten, counted %d", l, s.pace.learned)
	}
	s.decide(s.liked[s.pick()])
	s.pace.most = l
	s.startOver()
	if len(s.marks) != 0 || len(s.learned()) != l || s.pace.most != l {
		t.Errorf("%d decisions, %d claims of %d", len(s.marks), len(s.learned()), l)
	}
	s.pace.most = l - 1
	s.startOver()
	if left := len(s.learned()); left != l/2 || s.pace.learned != left || s.pace.most <= l-1 {
		t.Errorf("%d claims of %d, counted %d, at most %d", left, l, s.pace.learned, s.pace.most)
	}
	if s.run(1<<30) != Unsat {
		t.Error("another answer")
	}
}

// TestPace: 1, 1, 2, 1, 1, 2, 4, .. units, and so on, so that they grow without end.
func TestPace(t *testing.T) {
	p := newPace()
	for _, units := range []int{1, 1, 2, 1, 1, 2, 4, 1, 1, 2, 1, 1, 2, 4, 8, 1, 1, 2, 1, 1, 2, 4, 1, 1, 2, 1, 1, 2, 4, 8, 16, 1} {
		for i := range units * unitClashes {
			if p.due() {
				t.Fatalf("due after %d clashes of %d units", i, units)
			}
			p.clash(i % 4)
		}
		if !p.due() {
			t.Fatalf("not due after %d units", units)
		}
	}
	if p.learned == 0 || p.learned >= 100*unitClashes {
		t.Errorf("%d were learned that may be forgotten", p.learned)
	}
}
