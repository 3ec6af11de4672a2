package unit

import (
	"slices"
	"testing"

	"crossroads/room"
)

// ordinary are formulas over three numbers, of which some can't hold from some truths on, and some tell nothing.
var ordinary = [][][]int{nil, {}, {nil}, {{3, -1, 3}, {2, 1}, {2, -2}}, {{2, -2}, {1, -2}, {3, 3}}, {{-1, -1}, {3, 1}, {-3, 2, 2}}, {{1}, {-1}}, {{3, 2, 1}}}

// each calls check with each of these formulas and each list of truths, new ones with spare room.
func each(check func(f [][]int, m []int)) {
	for _, f := range ordinary {
		truths(3, func(m []int) { check(room.Lists(f), room.List(m)) })
	}
}

// unchanged fails the test where call changes f or m, spare room included.
func unchanged(t *testing.T, what string, f [][]int, m []int, call func()) {
	t.Helper()
	f0, m0 := room.Copy(f), room.Copy([][]int{m})
	call()
	if !room.Same(f, f0) || !room.Same([][]int{m}, m0) {
		t.Errorf("%s changed the lists %v, %v", what, f0, m0)
	}
}

func TestWhatIsHandedInStays(t *testing.T) {
	each(func(f [][]int, m []int) {
		unchanged(t, "Run", f, m, func() { Run(3, f, m) })
	})
}

// TestWhatIsAnsweredIsNew: even where nothing follows, it shares memory neither with what is handed in nor with another answer.
func TestWhatIsAnsweredIsNew(t *testing.T) {
	each(func(f [][]int, m []int) {
		want, _ := plainly(f, m, inOrder(f))
		first, _, _ := Run(3, f, m)
		second, _, _ := Run(3, f, m)
		unchanged(t, "who wrote over an answer", f, m, func() { room.Fill(first) })
		if !slices.Equal(second, want) {
			t.Errorf("two answers to Run(3, %v, %v) share memory", f, m)
		}
		third, _, _ := Run(3, f, m)
		room.Fill(f...)
		room.Fill(m)
		if !slices.Equal(third, want) {
			t.Errorf("an answer, once %v, shares memory with what was handed in", want)
		}
	})
}

// TestNothingIsKept: the same lists with something else in them are asked anew.
func TestNothingIsKept(t *testing.T) {
	f, m := [][]int{{1, 2}, {-2, 3}}, []int{-1, 0, 0}
	follows(t, 3, f, m, -1, 1, 1)
	m[0] = 1
	follows(t, 3, f, m, 1, 0, 0)
	f[0][0] = -1
	follows(t, 3, f, m, 1, 1, 1)
	f[1] = []int{-2}
	clashes(t, 3, f, m)
	f[1] = nil
	clashes(t, 3, f, m)
	follows(t, 3, f[:1], m, 1, 1, 0)
	m[2] = 2
	refused(t, 3, f[:1], m)
}
