package ask

import (
	"math"
	"slices"
	"testing"

	"crossroads/api"
	"crossroads/dpll"
	"crossroads/term"
)

// TestExample is the chapter's.
func TestExample(t *testing.T) {
	for _, w := range []int{8, 16} {
		k := start(t)
		x := k.id(w, 0)
		k.values(list(k.less(x, 2)), x, 2, endless, 0, 1)
	}
}

// TestValues: of Vars and of what is made of them, where nothing is asked for, and where something is.
func TestValues(t *testing.T) {
	k := start(t)
	b, x, y, u, v := k.id(1, 0), k.id(8, 1), k.id(8, 2), k.id(16, 3), k.id(16, 4)
	wide := k.ext(16, x)
	for _, q := range []struct {
		l    []term.T
		x    term.T
		want []uint16
	}{
		{nil, b, to(0, 2)},
		{nil, x, to(0, 256)},
		{list(), k.not(x), to(0, 256)},
		{nil, k.num(16, 700), to(700, 701)},
		{list(k.less(u, 50)), k.num(8, 9), to(9, 10)},
		{nil, k.two(api.Sub, u, u), to(0, 1)},
		{list(b), b, to(1, 2)},
		{list(k.not(b)), b, to(0, 1)},
		{list(b), x, to(0, 256)},
		{list(k.less(x, 5)), wide, to(0, 5)},
		{list(k.less(x, 5)), k.two(api.Add, wide, wide), []uint16{0, 2, 4, 6, 8}},
		{list(k.is(x, 5)), k.two(api.Mul, wide, wide), to(25, 26)},
		{list(k.less(x, 3), k.less(y, 2)), k.two(api.Sub, x, y), []uint16{0, 1, 2, 255}},
		{list(k.less(x, 3), k.less(y, 2)), k.less(x, 2), to(0, 2)},
		{list(k.less(x, 2), k.less(y, 2)), k.less(x, 2), to(1, 2)},
		{list(k.less(x, 3), k.two(api.Eq, x, y), k.two(api.Lt, x, y)), x, nil},
		{list(k.less(y, 0)), x, nil},
		{list(k.less(y, 0)), k.num(8, 1), nil},
		{list(b, k.not(b)), x, nil},
		{list(k.num(1, 0)), x, nil},
		{list(k.num(1, 1)), k.cut(1, x), to(0, 2)},
		{list(k.is(k.two(api.Mul, u, u), 17)), u, []uint16{9961, 22807, 42729, 55575}},
		{list(k.is(k.two(api.Add, u, v), 7), k.less(u, 10)), v, append(to(0, 8), 0xfffe, 0xffff)},
		{list(k.is(k.two(api.Add, u, v), 7), k.less(u, 10)), k.two(api.Add, u, k.two(api.Add, v, wide)), to(7, 263)},
		{list(k.is(k.two(api.Xor, u, v), 7), k.is(b, 1)), k.two(api.Or, u, k.two(api.Xor, k.num(16, 0xffff), v)), []uint16{0xfff8, 0xfff9, 0xfffa, 0xfffb, 0xfffc, 0xfffd, 0xfffe, 0xffff}},
	} {
		if !slices.IsSorted(q.want) {
			t.Fatalf("the test's own values %v do not rise", q.want)
		}
		for _, most := range []int{len(q.want), len(q.want) + 1, 1000, 65536, math.MaxInt} {
			k.values(q.l, q.x, most, endless, q.want...)
		}
		for _, most := range []int{len(q.want) - 1, len(q.want) - 2, len(q.want) / 2, 1, 0} {
			if most >= 0 && most < len(q.want) {
				k.noValues(q.l, q.x, most, endless)
			}
		}
	}
}

// TestMostZero: that tells whether there is a value.
func TestMostZero(t *testing.T) {
	k := start(t)
	x, u, v := k.id(8, 0), k.id(16, 1), k.id(16, 2)
	sum := k.is(k.two(api.Add, u, v), 7)
	for _, x := range list(x, u, k.two(api.Mul, u, v), k.num(8, 7)) {
		k.noValues(nil, x, 0, endless)
		k.noValues(list(sum), x, 0, endless)
		k.values(list(k.num(1, 0)), x, 0, endless)
		k.values(list(sum, k.two(api.Eq, u, v)), x, 0, endless)
	}
}

// TestAllValues: as many as there are numbers of 16 bits.
func TestAllValues(t *testing.T) {
	k := start(t)
	x := k.id(16, 9)
	up := k.two(api.Add, x, k.num(16, 40000))
	k.values(nil, x, 65536, endless, to(0, 65536)...)
	k.values(nil, up, 65536, endless, to(0, 65536)...)
	k.noValues(nil, x, 65535, endless)
	k.values(list(k.not(k.is(x, 30000))), up, 65535, endless, append(to(0, 4464), to(4465, 65536)...)...)
	// beside another Var, the solver says it
	y := k.two(api.Xor, x, k.two(api.Shl, k.ext(16, k.id(8, 1)), k.num(16, 8)))
	k.values(nil, k.two(api.Shr, y, k.num(16, 4)), 4096, endless, to(0, 4096)...)
	k.noValues(nil, k.two(api.Shr, y, k.num(16, 4)), 4095, endless)
}

// TestUnknownValues: where a question is Unknown there are none, and false, be it the first one, or the last, or that whether the terms can be 1 at all.
func TestUnknownValues(t *testing.T) {
	k := start(t)
	l, x, y := k.product(2, 62499)
	k.noValues(l, x, 9, 0)
	k.noValues(l, k.two(api.Add, x, y), 9, 0)
	k.noValues(l, k.num(8, 3), 9, 0)
	k.noValues(l, k.id(8, 9), 256, 0)
	k.values(l, x, 9, endless, 249)
	k.values(l, x, 1, endless, 249)
	k.values(l, k.num(8, 3), 9, endless, 3)
	k.values(l, k.id(8, 9), 256, endless, to(0, 256)...)
	k.values(append(l, k.less(k.id(8, 9), 0)), x, 9, 0) // what is seen at once takes no decision
	p, u, _ := k.product(5, 62497)
	k.noValues(p, u, 9, 0)
	k.noValues(p, k.id(8, 9), 256, 0)
	k.values(p, u, 0, endless)
	k.values(p, k.id(8, 9), 0, endless)
}

// TestUnknownOthers: with some budgets a first value is found, but not whether there is another.
func TestUnknownOthers(t *testing.T) {
	k := start(t)
	l, _, _ := k.product(2, 62497)
	x := k.num(1, 1)
	for _, y := range l {
		x = k.two(api.And, x, y)
	}
	l = list(k.less(k.id(16, 4), 40000)) // x is 0, as 62497 is a prime number
	found, all := 0, 0
	for budget := 0; budget < 1<<20; budget = budget*3/2 + 1 {
		kind, _, e := Can(k.Arena, append(l, k.not(x)), budget)
		r, ok, g := Values(k.Arena, l, x, 2, budget)
		switch {
		case e != api.OK || g != api.OK || kind == dpll.Unsat || ok && !slices.Equal(r, to(0, 1)) || !ok && len(r) != 0:
			t.Fatalf("budget %d: Can %d, %d; Values %v, %v, %d", budget, kind, int(e), r, ok, int(g))
		case ok:
			all++
		case kind == dpll.Sat:
			found++
		}
	}
	if found == 0 || all == 0 {
		t.Errorf("a value is found with %d budgets, all with %d", found, all)
	}
	k.values(l, x, 1, endless, 0)
}

// TestLongTerms: so much to reckon that the solver is asked, though there are few bits.
func TestLongTerms(t *testing.T) {
	k := start(t)
	var b []term.T
	for id := range 8 {
		b = append(b, k.id(1, id))
	}
	x := b[0]
	for i := range mostNodes >> 8 {
		x = k.two(api.Or, b[1+i%7], k.two(api.And, x, k.not(b[1+(i+3)%7])))
	}
	q := newQuestion(k.Arena, list(x))
	if g := q.groups[0]; q.countable(q.digits(g.vars), g.terms, bitsForOne) {
		t.Fatal("it is gone through")
	}
	k.can(list(x), endless, dpll.Sat)
	k.can(list(k.not(x)), endless, dpll.Sat)
	k.can(list(x, k.not(x)), endless, dpll.Unsat)
	k.values(nil, x, 2, endless, 0, 1)
	k.values(list(x), x, 1, endless, 1)
}
