package dpll

import (
	"slices"
	"testing"

	"crossroads/api"
	"crossroads/room"
)

// ordinary are formulas over four numbers, of which some hold under no truths, and some take decisions.
func ordinary() [][][]int {
	_, f := holes(2, 2)
	return [][][]int{
		nil, {}, {nil}, {{3, -1, 3}, {2, 1}, {2, -2}}, {{2, -2}, {1, -2}, {3, 3}}, {{1}, {-1}}, {{3, 2, 1, 4}}, f, xor(true, 1, 2, 3, 4), xor(false, 4, 2, 1),
		slices.Concat(xor(true, 1, 2, 3), xor(true, 2, 3, 4), xor(true, 1, 4)), {{1, 2}, {-1, 3}, {-3, 4, 4, 1}, {-2, -4}},
	}
}

// TestWhatIsHandedInStays: with spare room, at any budget.
func TestWhatIsHandedInStays(t *testing.T) {
	for _, f := range ordinary() {
		for _, n := range []int{3, 4, 25, -1} {
			for _, b := range []int{-1, 0, 1, 2, 1 << 40} {
				g := room.Lists(f)
				was := room.Copy(g)
				Solve(n, g, b)
				if !room.Same(g, was) {
					t.Errorf("Solve(%d, %v, %d) changed the formula", n, f, b)
				}
				Count(n, g, b)
				if !room.Same(g, was) {
					t.Errorf("Count(%d, %v, %d) changed the formula", n, f, b)
				}
			}
		}
	}
}

// fill writes over all truths in m, and in its room.
func fill(m []bool) {
	for i := range m[:cap(m)] {
		m[:cap(m)][i] = !m[:cap(m)][i]
	}
}

// TestWhatIsAnsweredIsNew: two answers share no memory, and none is shared with what is handed in.
func TestWhatIsAnsweredIsNew(t *testing.T) {
	for _, f := range ordinary() {
		g := room.Lists(f)
		_, first, _ := Solve(4, g, 1<<40)
		_, second, _ := Solve(4, g, 1<<40)
		want := slices.Clone(second)
		fill(first)
		room.Fill(g...)
		if !slices.Equal(second, want) {
			t.Errorf("an answer to Solve of %v shares memory", f)
		}
		_, third, _ := Solve(4, f, 1<<40)
		if !slices.Equal(third, want) {
			t.Errorf("who wrote over an answer to Solve of %v changed the next", f)
		}
	}
}

// TestNothingIsKept: the same lists with something else in them are asked anew.
func TestNothingIsKept(t *testing.T) {
	f := [][]int{{1, 2}, {-1, 2}, {1, -2}}
	says := func(want, models int) {
		t.Helper()
		is(t, want, 2, f, 1<<40)
		counts(t, 2, f, models)
	}
	says(Sat, 1)
	f[2][0], f[2][1] = -2, -2
	says(Unsat, 0)
	f[0][0] = -2
	says(Sat, 1)
	f[1] = nil
	says(Unsat, 0)
	f[1] = []int{1, -2}
	says(Sat, 2)
	f[1][0] = 3
	refused(t, 2, f)
	f[1][0] = 1
	says(Sat, 2)
}

// TestAnswersOfNoNumbers: there is one list of no truths.
func TestAnswersOfNoNumbers(t *testing.T) {
	for _, f := range [][][]int{nil, {}} {
		k, m, e := Solve(0, f, 0)
		if k != Sat || len(m) != 0 || e != api.OK {
			t.Errorf("Solve(0, %v, 0) = %d, %v, %v", f, k, m, e)
		}
		counts(t, 0, f, 1)
	}
	counts(t, 0, [][]int{{}}, 0)
}
