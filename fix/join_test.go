package fix

import (
	"math/rand"
	"slices"
	"testing"

	"crossroads/api"
	"crossroads/term"
)

// joins are All and Any.
var joins = map[string]func(*term.Arena, []term.T) (term.T, api.Errno){"All": All, "Any": Any}

func TestAllAndAnyOfNothing(t *testing.T) {
	m := start(t)
	for _, l := range [][]term.T{nil, {}, make([]term.T, 0, 4)} {
		m.known(m.all(l...), 1, 1)
		m.known(m.any(l...), 1, 0)
	}
}

func TestAllAndAnyOfOne(t *testing.T) {
	m := start(t)
	b, c := m.id(1, 0), m.id(1, 1)
	for _, x := range []term.T{b, m.not(b), m.two(api.Xor, b, c), m.two(api.Lt, m.id(8, 2), m.num(8, 9)), m.num(1, 0), m.num(1, 1)} {
		for _, env := range [][]uint16{nil, {1}, {0, 1, 9}, {1, 1, 8}} {
			m.worth(m.all(x), 1, env, m.Eval(x, env))
			m.worth(m.any(x), 1, env, m.Eval(x, env))
		}
	}
}

// TestAllAndAnyOfSome: of all lists of up to four of these, under all assignments.
func TestAllAndAnyOfSome(t *testing.T) {
	m := start(t)
	b, c, d := m.id(1, 0), m.id(1, 1), m.id(1, 2)
	from := []term.T{b, c, d, m.not(b), m.two(api.Xor, c, d), m.num(1, 0), m.num(1, 1)}
	var try func(l []term.T)
	try = func(l []term.T) {
		all, any := m.all(l...), m.any(l...)
		for v := range uint16(8) {
			env := []uint16{v & 1, v >> 1 & 1, v >> 2}
			and, or := uint16(1), uint16(0)
			for _, x := range l {
				and, or = and&m.Eval(x, env), or|m.Eval(x, env)
			}
			m.worth(all, 1, env, and)
			m.worth(any, 1, env, or)
		}
		if len(l) < 4 {
			for _, x := range from {
				try(append(l[:len(l):len(l)], x))
			}
		}
	}
	try(nil)
}

// TestAllAndAnyOfMany: each of them is asked.
func TestAllAndAnyOfMany(t *testing.T) {
	m := start(t)
	var l []term.T
	for id := range api.MaxVars {
		l = append(l, m.id(1, id))
	}
	all, any := m.all(l...), m.any(l...)
	ones, noughts := slices.Repeat([]uint16{1}, api.MaxVars), make([]uint16, api.MaxVars)
	m.worth(all, 1, ones, 1)
	m.worth(any, 1, noughts, 0)
	for id := range api.MaxVars {
		ones[id], noughts[id] = 0, 1
		m.worth(all, 1, ones, 0)
		m.worth(any, 1, ones, 1)
		m.worth(all, 1, noughts, 0)
		m.worth(any, 1, noughts, 1)
		ones[id], noughts[id] = 1, 0
	}
}

// TestAllAndAnyOfConsts: what is made of Consts alone is one.
func TestAllAndAnyOfConsts(t *testing.T) {
	m := start(t)
	no, yes := m.num(1, 0), m.num(1, 1)
	for v := range 32 {
		var l []term.T
		and, or := uint16(1), uint16(0)
		for i := range 5 {
			b := uint16(v >> i & 1)
			l = append(l, []term.T{no, yes}[b])
			and, or = and&b, or|b
		}
		m.known(m.all(l...), 1, and)
		m.known(m.any(l...), 1, or)
	}
	if m.Len() != 2 {
		t.Errorf("there are %d nodes", m.Len())
	}
}

// TestAllAndAnyOfADeepList: of many thousand terms, and of few that stand in it more often than there may be nodes.
func TestAllAndAnyOfADeepList(t *testing.T) {
	m := start(t)
	x := m.id(16, 0)
	var l, not []term.T
	for v := range uint16(6000) {
		y := m.two(api.Eq, x, m.num(16, v))
		l, not = append(l, y), append(not, m.not(y))
	}
	any, all := m.any(l...), m.all(not...)
	for _, v := range []uint16{0, 1, 2999, 5999, 6000, 0xffff} {
		m.worth(any, 1, []uint16{v}, truth(v < 6000))
		m.worth(all, 1, []uint16{v}, truth(v >= 6000))
	}
	few := slices.Repeat(l[:3], api.MaxTerms)
	any, all = m.any(few...), m.all(few...)
	for v, want := range []uint16{1, 1, 1, 0} {
		m.worth(any, 1, []uint16{uint16(v)}, want)
		m.worth(all, 1, []uint16{uint16(v)}, 0)
	}
	again := slices.Repeat([]term.T{l[7]}, api.MaxTerms+1)
	for v := range uint16(9) {
		m.worth(m.all(again...), 1, []uint16{v}, truth(v == 7))
		m.worth(m.any(again...), 1, []uint16{v}, truth(v == 7))
	}
}

func TestAllAndAnyRefuse(t *testing.T) {
	m := start(t)
	b, c, x, y := m.id(1, 0), m.id(1, 1), m.id(8, 2), m.id(16, 3)
	yes, no, eight := m.num(1, 1), m.num(1, 0), m.num(8, 1)
	for what, f := range joins {
		for _, z := range none(m.Arena) {
			for _, l := range [][]term.T{{z}, {z, b}, {b, z}, {b, z, c}, {z, z}, {no, z}, {yes, z}, {z, no}, {z, yes}} {
				m.refused(what+" of none", func() (term.T, api.Errno) { return f(m.Arena, l) }, api.ErrArg)
			}
			for _, l := range [][]term.T{{z, x}, {x, z}, {b, z, y}, {y, b, z}, {z, eight, b}, {no, z, x}, {yes, x, z}, {x, z, z}} { // the width is named first
				m.refused(what+" of none and a wide one", func() (term.T, api.Errno) { return f(m.Arena, l) }, api.ErrWidth)
			}
		}
		for _, l := range [][]term.T{{x}, {y}, {eight}, {b, x}, {x, b}, {y, x}, {x, x}, {b, c, y}, {b, y, c}, {no, x}, {yes, x}, {x, no}, {y, yes}, {b, eight}} {
			m.refused(what+" of a wide one", func() (term.T, api.Errno) { return f(m.Arena, l) }, api.ErrWidth)
		}
	}
}

func TestAllAndAnyOfNoArena(t *testing.T) {
	for what, f := range joins {
		for _, l := range [][]term.T{nil, {}, {0}, {1}, {1, 2}, {-1}} {
			if x, e := f(nil, l); x != 0 || e != api.ErrArg {
				t.Errorf("%s(nil, %v) = %d, %d", what, l, x, int(e))
			}
		}
		if x, e := f(new(term.Arena), nil); x != 1 || e != api.OK {
			t.Errorf("%s of nothing in an empty arena = %d, %d", what, x, int(e))
		}
	}
}

func TestAllAndAnyLeaveTheirList(t *testing.T) {
	m := start(t)
	b, c, d := m.id(1, 0), m.id(1, 1), m.id(1, 2)
	no, yes := m.num(1, 0), m.num(1, 1)
	whole := []term.T{yes, no, d, c, c, b, yes, no, 99}
	for what, f := range joins {
		for from := range whole {
			for to := from; to < len(whole); to++ {
				l := slices.Clone(whole)
				x := m.fine(f(m.Arena, l[from:to]))
				if !slices.Equal(l, whole) {
					t.Fatalf("%s of %v has changed it: %v", what, whole, l)
				}
				want := m.Eval(x, []uint16{0, 1})
				clear(l) // and it is not kept
				if y := m.fine(f(m.Arena, whole[from:to])); y != x {
					t.Errorf("%s of %v: %d, then %d", what, whole[from:to], x, y)
				}
				m.worth(x, 1, []uint16{0, 1}, want)
			}
		}
	}
}

func TestAllAndAnyOnceMore(t *testing.T) {
	m, o := start(t), start(t)
	l, k := m.growth(rand.New(rand.NewSource(8)), 200), o.growth(rand.New(rand.NewSource(8)), 200)
	ones := func(m maker, l []term.T) (r []term.T) {
		for _, x := range l {
			if m.Width(x) == 1 {
				r = append(r, x)
			}
		}
		return r
	}
	l, k = ones(m, l), ones(o, k)
	for what, f := range joins {
		for n := range l {
			x := m.fine(f(m.Arena, l[:n]))
			nodes := m.Len()
			if y := m.fine(f(m.Arena, l[:n])); y != x || m.Len() != nodes {
				t.Fatalf("%s of %d: %d, then %d with %d nodes more", what, n, x, y, m.Len()-nodes)
			}
			if y := o.fine(f(o.Arena, k[:n])); y != x {
				t.Fatalf("%s of %d: %d, in an arena like it %d", what, n, x, y)
			}
		}
	}
}
