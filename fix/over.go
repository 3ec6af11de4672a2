package fix

import (
	"slices"

	"crossroads/api"
	"crossroads/term"
)

// given is the numbers that stand in the place of Vars, by id; 0 where there is none.
type given struct {
	is   [api.MaxVars]bool
	vals [api.MaxVars]uint16
}

// gather puts numbers by their ids: of one that stands twice the first; those that no Var has are let out.
func gather(ids []int, vals []uint16) *given {
	g := &given{}
	for i, id := range ids {
		if id >= 0 && id < api.MaxVars && !g.is[id] {
			g.is[id], g.vals[id] = true, vals[i]
		}
	}
	return g
}

// many answers how many of those Vars have a number.
func (g *given) many(vars []int) int {
	n := 0
	for _, id := range vars {
		if g.is[id] {
			n++
		}
	}
	return n
}

// partly answers x with the numbers in the place of some of its Vars: ErrFull. It is made in an arena of its own first, so that what falls away on the way takes no room in a.
func partly(a *term.Arena, x term.T, g *given) (term.T, api.Errno) {
	s := term.New()
	y, e := over(a, s, within(a, x), g)
	if e != api.OK {
		return 0, e
	}
	l := within(s, y)
	return whole(a, len(l), func(b *term.Arena) (term.T, api.Errno) {
		return over(s, b, l, &given{})
	})
}

// within answers the terms that x is made of, itself too, each once and behind its parts; nothing of none.
func within(a *term.Arena, x term.T) []term.T {
	if a.Width(x) == 0 {
		return nil
	}
	l, seen := []term.T{x}, map[term.T]struct{}{0: {}, x: {}} // 0: no part
	for i := 0; i < len(l); i++ {
		n, _ := a.Node(l[i])
		for _, p := range [3]term.T{n.A, n.B, n.C} {
			if _, ok := seen[p]; !ok {
				seen[p] = struct{}{}
				l = append(l, p)
			}
		}
	}
	slices.Sort(l) // parts have lower numbers
	return l
}

// over makes the terms of l, each behind its parts, once more in another arena, with numbers in the place of Vars, and answers the last one: ErrFull.
func over(from, to *term.Arena, l []term.T, g *given) (term.T, api.Errno) {
	made, last := make(map[term.T]term.T, len(l)), term.T(0)
	for _, x := range l {
		n, _ := from.Node(x)
		n.A, n.B, n.C = made[n.A], made[n.B], made[n.C]
		y, e := again(to, n, g)
		if e != api.OK {
			return 0, e
		}
		made[x], last = y, y
	}
	return last, api.OK
}

// again answers the term of a node whose parts are terms of a: ErrFull.
func again(a *term.Arena, n term.Node, g *given) (term.T, api.Errno) {
	switch n.Op {
	case api.Const:
		return a.Const(n.W, n.Val)
	case api.Var:
		if g.is[n.Val] {
			return a.Const(n.W, g.vals[n.Val])
		}
		return a.Var(n.W, int(n.Val))
	case api.Not:
		return a.Not(n.A)
	case api.Ite:
		return a.Ite(n.A, n.B, n.C)
	case api.Ext:
		return a.Ext(n.W, n.A)
	case api.Cut:
		return a.Cut(n.W, n.A)
	}
	return a.Two(n.Op, n.A, n.B)
}
