package blast

import (
	"math"
	"math/rand"
	"testing"

	"crossroads/api"
	"crossroads/term"
)

// TestNoTerms: what is none is refused, ahead of all, and leaves all as it is.
func TestNoTerms(t *testing.T) {
	k := start(t)
	for _, x := range none(k.Arena) {
		k.refused(x, api.ErrArg)
	}
	l := k.growth(rand.New(rand.NewSource(17)), 60)
	for _, x := range l {
		k.ask(x)
		m := k.snap()
		for _, x := range none(k.Arena) {
			k.refused(x, api.ErrArg)
		}
		if !m.same(k.snap()) {
			t.Error("what is refused changes the formula, or what Bit tells")
		}
	}
	k.stands(some(rand.New(rand.NewSource(18)), 10, 64))
}

// TestNoTermsWithoutRoom: there is no room, but that is not asked first.
func TestNoTermsWithoutRoom(t *testing.T) {
	k := start(t)
	k.fill(api.MaxVars, 0)
	k.refused(k.num(8, 1), api.ErrFull)
	for _, x := range none(k.Arena) {
		k.refused(x, api.ErrArg)
	}
}

// TestNoBits: of a Var that stands in no term that was asked for, an id that is none, a bit that it has not.
func TestNoBits(t *testing.T) {
	k := start(t)
	k.id(8, 0)
	k.two(api.Add, k.id(16, 1), k.id(16, 2))
	k.bits()
	k.ask(k.two(api.Lt, k.id(16, 2), k.num(16, 9)))
	k.bits()
	k.ask(k.ite(k.id(1, api.MaxVars-1), k.id(8, 0), k.num(8, 1)))
	k.bits()
	for _, id := range []int{
		math.MinInt, math.MinInt + 2, -1 << 32, -256, -api.MaxVars, -2, -1, 1, 3, api.MaxVars, api.MaxVars + 2, 256, 256 + 2, 1 << 16, 1<<16 + 2, 1 << 32, 1<<32 + 2, math.MaxInt,
	} {
		for _, i := range []int{-1, 0, 1, 7, 15, 16} {
			if l, ok := k.b.Bit(id, i); l != 0 || ok {
				t.Errorf("Bit(%d, %d) = %d, %v", id, i, l, ok)
			}
		}
	}
	for id, w := range map[int]int{0: 8, 2: 16, api.MaxVars - 1: 1} {
		for _, i := range []int{math.MinInt, math.MinInt + 1, -1 << 32, -w, -2, -1, w, w + 1, 2 * w, 256, 1 << 16, 1 << 32, 1<<32 + 1, math.MaxInt} {
			if l, ok := k.b.Bit(id, i); l != 0 || ok {
				t.Errorf("Bit(%d, %d) = %d, %v", id, i, l, ok)
			}
		}
		if l, ok := k.b.Bit(id, w-1); l == 0 || !ok {
			t.Errorf("Bit(%d, %d) = %d, %v", id, w-1, l, ok)
		}
	}
}

// TestNoBlast: a nil one, one of a nil arena, one that was never made, one of an empty arena.
func TestNoBlast(t *testing.T) {
	if b := New(nil); b != nil {
		t.Errorf("New(nil) = %v", b)
	}
	for _, b := range []*Blast{nil, New(nil), {}, new(Blast), New(term.New()), New(new(term.Arena))} {
		for _, x := range []term.T{math.MinInt, -1, 0, 1, 2, 1 << 32, math.MaxInt} {
			if l, e := b.Bits(x); len(l) != 0 || e != api.ErrArg {
				t.Errorf("Bits(%d) = %v, %d", x, l, int(e))
			}
		}
		for _, id := range []int{math.MinInt, -1, 0, 1, 63, 64, math.MaxInt} {
			for _, k := range []int{math.MinInt, -1, 0, 1, 15, 16, math.MaxInt} {
				if l, ok := b.Bit(id, k); l != 0 || ok {
					t.Errorf("Bit(%d, %d) = %d, %v", id, k, l, ok)
				}
			}
		}
		if n, f := b.Formula(); n != 0 || len(f) != 0 {
			t.Errorf("Formula = %d, %v", n, f)
		}
	}
}
