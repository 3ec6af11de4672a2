package ask

import (
	"math"
	"testing"

	"crossroads/api"
	"crossroads/dpll"
	"crossroads/term"
)

// TestNoTerms: one is none, wherever it stands, and whatever else there is.
func TestNoTerms(t *testing.T) {
	k := start(t)
	b, x := k.id(1, 0), k.id(8, 1)
	no, yes, not := k.num(1, 0), k.num(1, 1), k.not(b)
	for _, y := range none(k.Arena) {
		for _, l := range [][]term.T{{y}, {y, y}, {y, b}, {b, y}, {b, yes, y, b}, {no, y}, {y, no}, {b, not, y}} {
			k.refused(l, x, 256, endless, api.ErrArg)
			k.refused(l, x, 256, 0, api.ErrArg)
		}
		for _, l := range [][]term.T{nil, {b}, {no}, {yes, b}, {b, not}} {
			k.refusedValues(l, y, 256, endless, api.ErrArg)
			k.refusedValues(l, y, 0, 0, api.ErrArg)
		}
	}
	empty := start(t)
	for _, y := range []term.T{math.MinInt, -1, 0, 1, 2, math.MaxInt} {
		empty.refused(list(y), 1, 9, 9, api.ErrArg)
		empty.refusedValues(nil, y, 9, 9, api.ErrArg)
	}
	empty.can(nil, 9, dpll.Sat)
}

// TestWidths: one is not 1 wide; that one is none is told ahead of it, and so is each other ErrArg.
func TestWidths(t *testing.T) {
	k := start(t)
	b, x, u, no := k.id(1, 0), k.id(8, 1), k.id(16, 2), k.num(1, 0)
	for _, y := range []term.T{x, u, k.num(8, 1), k.num(16, 0), k.ext(8, b), k.two(api.And, x, x)} {
		for _, l := range [][]term.T{{y}, {y, b}, {b, y}, {y, y, y}, {no, y}, {y, no}, {b, k.not(b), y}} {
			k.refused(l, x, 256, endless, api.ErrWidth)
			k.refused(l, b, 0, 0, api.ErrWidth)
			k.refused(l, b, 0, -1, api.ErrArg)
			k.refusedValues(l, b, -1, 0, api.ErrArg)
			k.refusedValues(l, 0, 9, 9, api.ErrArg)
			for _, z := range none(k.Arena) {
				k.refused(append(list(z), l...), b, 9, 9, api.ErrArg)
				k.refused(append(l[:len(l):len(l)], z), b, 9, 9, api.ErrArg)
				k.refusedValues(l, z, 9, 9, api.ErrArg)
			}
		}
	}
}

// TestBudgets: below 0; and most below 0.
func TestBudgets(t *testing.T) {
	k := start(t)
	b, x := k.id(1, 0), k.id(8, 1)
	for _, n := range []int{-1, -2, -256, -1 << 16, -1 << 32, math.MinInt + 1, math.MinInt} {
		for _, l := range [][]term.T{nil, {}, {b}, {k.num(1, 0)}, {b, k.not(b)}, {0}, {x}} {
			k.refused(l, x, 256, n, api.ErrArg)
			k.refused(l, x, 0, n, api.ErrArg)
			k.refusedValues(l, x, n, endless, api.ErrArg)
			k.refusedValues(l, x, n, 0, api.ErrArg)
			k.refusedValues(l, x, n, n, api.ErrArg)
			k.refusedValues(l, 0, n, n, api.ErrArg)
		}
	}
}

// TestNoArena: of a nil one nothing is known.
func TestNoArena(t *testing.T) {
	for _, l := range [][]term.T{nil, {}, {1}, {0}, {-1}, {1, 2}} {
		for _, budget := range []int{-1, 0, endless} {
			if kind, env, e := Can(nil, l, budget); kind != 0 || len(env) != 0 || e != api.ErrArg {
				t.Errorf("Can(nil, %v, %d) = %d, %v, %d", l, budget, kind, env, int(e))
			}
			for _, x := range []term.T{math.MinInt, 0, 1, 2, math.MaxInt} {
				for _, most := range []int{-1, 0, 9} {
					if r, ok, e := Values(nil, l, x, most, budget); len(r) != 0 || ok || e != api.ErrArg {
						t.Errorf("Values(nil, %v, %d, %d, %d) = %v, %v, %d", l, x, most, budget, r, ok, int(e))
					}
				}
			}
		}
	}
	k := asker{t, &term.Arena{}} // one that was never made is empty
	k.can(nil, 0, dpll.Sat)
	k.refused(list(1), 1, 9, 9, api.ErrArg)
}
