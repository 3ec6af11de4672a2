package room

import (
	"slices"
	"testing"
)

var some = [][]int{{3, -1, 3}, {}, nil, {2}}

// alike tells whether what stands in two lists of lists is, whatever room they have.
func alike(f, g [][]int) bool { return slices.EqualFunc(f, g, slices.Equal) }

func TestListsHaveRoom(t *testing.T) {
	for _, f := range [][][]int{nil, {}, {nil}, some} {
		g := Lists(f)
		if !alike(f, g) || cap(g) == len(g) || len(g[:cap(g)][len(g)]) == 0 {
			t.Errorf("Lists(%v) = %v, room %d", f, g, cap(g)-len(g))
		}
		for _, c := range g {
			if cap(c) == len(c) || c[:cap(c)][len(c)] == 0 {
				t.Errorf("the list %v of Lists(%v): room %d", c, f, cap(c)-len(c))
			}
		}
	}
}

func TestListsAreNew(t *testing.T) {
	f := [][]int{{3, -1, 3}, {}, nil, {2}}
	for _, g := range [][][]int{Lists(f), Copy(f), {List(f[0]), f[1], f[2], List(f[3])}} {
		Fill(g...)
		if !alike(f, some) || alike(f, g) {
			t.Errorf("%v, and new lists filled %v", f, g)
		}
	}
}

// TestSame: whatever is changed, in the room too, shows.
func TestSame(t *testing.T) {
	for _, change := range []func(f [][]int) [][]int{
		func(f [][]int) [][]int { f[0][1]++; return f },
		func(f [][]int) [][]int { f[1][:1][0]++; return f },
		func(f [][]int) [][]int { c := f[3][:cap(f[3])]; c[len(c)-1]++; return f },
		func(f [][]int) [][]int { f[2] = f[2][:1]; return f },
		func(f [][]int) [][]int { f[3] = slices.Clip(f[3]); return f },
		func(f [][]int) [][]int { f[:5][4][0]++; return f },
		func(f [][]int) [][]int { f[:6][5] = nil; return f },
		func(f [][]int) [][]int { f[0], f[1] = f[1], f[0]; return f },
		func(f [][]int) [][]int { return f[:3] },
		func(f [][]int) [][]int { return f[:5] },
		func(f [][]int) [][]int { return slices.Clip(f) },
	} {
		f := Lists(some)
		was := Copy(f)
		if !Same(f, was) || !Same(was, f) {
			t.Fatalf("%v is not as it was: %v", f, was)
		}
		if f = change(f); Same(f, was) || Same(was, f) {
			t.Errorf("%v is as it was: %v", f, was)
		}
	}
	if !Same(nil, nil) || !Same(nil, [][]int{}) || Same(nil, [][]int{nil}) {
		t.Error("lists of none and of one")
	}
}

func TestFill(t *testing.T) {
	f := Lists(some)
	was := f[:cap(f)]
	Fill(f...)
	for i, c := range was {
		if slices.ContainsFunc(c[:cap(c)], func(x int) bool { return x != 4 }) {
			t.Errorf("the list %d is filled so: %v", i, c[:cap(c)])
		}
	}
}
