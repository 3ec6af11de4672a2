package blast

import (
	"math/rand"
	"slices"
	"testing"

	"crossroads/api"
	"crossroads/room"
)

// TestListsAreNew: whatever is written into them, their room too, and into the list of them, what is told later is as it would be.
func TestListsAreNew(t *testing.T) {
	k, other := start(t), start(t)
	l := k.growth(rand.New(rand.NewSource(19)), 120)
	other.growth(rand.New(rand.NewSource(19)), 120)
	for i, x := range l {
		got := k.ask(x)
		if want := other.ask(x); !slices.Equal(got, want) {
			t.Fatalf("Bits(%d) = %v, want %v", x, got, want)
		}
		room.Fill(got)
		if i%10 == 0 {
			_, f := k.b.Formula()
			room.Fill(f...)
			clear(f[:cap(f)])
		}
	}
	for _, x := range l {
		got, want := k.ask(x), other.ask(x)
		if !slices.Equal(got, want) {
			t.Errorf("Bits(%d) once more = %v, want %v", x, got, want)
		}
		room.Fill(got)
	}
	if !k.snap().same(other.snap()) {
		t.Error("what was written into the answers shows in the formula, or in what Bit tells")
	}
	k.stands(some(rand.New(rand.NewSource(20)), 10, 64))
}

// TestListsShareNothing: what is written into one clause, its room too, shows in no other.
func TestListsShareNothing(t *testing.T) {
	k := start(t)
	k.ask(k.two(api.Mod, k.id(8, 0), k.id(8, 1)))
	_, f := k.b.Formula()
	want := room.Copy(f)
	for i, c := range f {
		room.Fill(c)
		if f[i] = slices.Clone(want[i]); !slices.EqualFunc(f, want, slices.Equal) {
			t.Fatalf("what is written into clause %d shows in another", i)
		}
	}
}
