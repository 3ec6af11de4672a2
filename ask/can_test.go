package ask

import (
	"math"
	"slices"
	"testing"

	"crossroads/api"
	"crossroads/dpll"
	"crossroads/term"
)

// TestCanOfNothing: no terms at all are all 1, whatever the budget, and no Var stands in them.
func TestCanOfNothing(t *testing.T) {
	k := start(t)
	for range 2 {
		for _, budget := range []int{0, 1, endless, math.MaxInt} {
			for _, l := range [][]term.T{nil, {}} {
				if env := k.can(l, budget, dpll.Sat); !slices.Equal(env, make([]uint16, api.MaxVars)) {
					t.Errorf("Can of nothing: %v", env)
				}
			}
		}
		k.id(8, 3) // one that stands in nothing that is asked
	}
}

// TestCanOfKnown: of Consts, alone and with others.
func TestCanOfKnown(t *testing.T) {
	k := start(t)
	no, yes, b := k.num(1, 0), k.num(1, 1), k.id(1, 7)
	for _, budget := range []int{0, endless} {
		k.can(list(yes), budget, dpll.Sat)
		k.can(list(yes, yes), budget, dpll.Sat)
		k.can(list(no), budget, dpll.Unsat)
		k.can(list(yes, no), budget, dpll.Unsat)
		k.can(list(no, b), budget, dpll.Unsat)
		k.can(list(b, no), budget, dpll.Unsat)
		k.can(list(b, yes), budget, dpll.Sat)
	}
}

// TestCan: terms that can all be 1, and some that can each, but not together.
func TestCan(t *testing.T) {
	k := start(t)
	b, c, x, y, u, v := k.id(1, 0), k.id(1, api.MaxVars-1), k.id(8, 5), k.id(8, 6), k.id(16, 7), k.id(16, 8)
	sum := k.two(api.Add, u, v)
	for _, q := range []struct {
		l    []term.T
		kind int
	}{
		{list(b), dpll.Sat},
		{list(b, b, b), dpll.Sat},
		{list(k.not(b)), dpll.Sat},
		{list(b, k.not(b)), dpll.Unsat},
		{list(k.not(b), b), dpll.Unsat},
		{list(b, k.not(c)), dpll.Sat},
		{list(k.two(api.And, b, k.not(c))), dpll.Sat},
		{list(k.two(api.And, b, k.not(c)), c), dpll.Unsat},
		{list(c, k.two(api.And, k.two(api.And, k.not(c), b), b)), dpll.Unsat},
		{list(k.two(api.Or, b, c), k.not(b)), dpll.Sat},
		{list(k.two(api.Or, b, c), k.not(b), k.not(c)), dpll.Unsat},
		{list(k.two(api.Eq, b, c), b), dpll.Sat},
		{list(k.two(api.Xor, b, c), b, c), dpll.Unsat},
		{list(k.less(x, 1)), dpll.Sat},
		{list(k.less(x, 0)), dpll.Unsat},
		{list(k.less(x, 9), k.not(k.less(x, 8))), dpll.Sat},
		{list(k.less(x, 8), k.not(k.less(x, 8))), dpll.Unsat},
		{list(k.less(x, 8), k.is(y, 255), k.two(api.Lt, y, x)), dpll.Unsat},
		{list(k.two(api.Lt, x, y), k.two(api.Lt, y, x)), dpll.Unsat},
		{list(k.two(api.Lt, x, y), k.is(k.two(api.Mul, x, y), 255), k.not(k.is(x, 1))), dpll.Sat},
		{list(k.is(sum, 12345), k.two(api.Lt, u, v), k.two(api.Lt, k.num(16, 6000), u)), dpll.Sat},
		{list(k.is(sum, 12345), k.two(api.Lt, u, v), k.two(api.Lt, k.num(16, 60000), u)), dpll.Unsat},
		{list(k.is(sum, 12345), k.is(k.two(api.And, u, k.num(16, 1)), 0), k.is(k.two(api.And, v, k.num(16, 1)), 0)), dpll.Unsat},
		{list(k.is(k.two(api.Mul, u, u), 17), k.less(u, 10000)), dpll.Sat},
		{list(k.is(k.two(api.Mul, u, u), 17), k.less(u, 9961)), dpll.Unsat},
		{list(k.is(k.two(api.Mul, u, u), 3)), dpll.Unsat},
		{list(k.is(k.two(api.Div, u, v), 0xffff), k.not(k.is(v, 1))), dpll.Sat},
		{list(b, k.is(sum, 1), k.less(x, 3), k.not(k.less(x, 2)), k.is(y, 77), k.ite(c, k.less(y, 77), k.less(k.num(8, 1), 2))), dpll.Sat},
		{list(b, k.is(sum, 1), k.less(x, 3), k.not(k.less(x, 3)), k.is(y, 77)), dpll.Unsat},
		{list(k.is(sum, 1), k.is(y, 77), k.is(k.two(api.Sub, u, u), 1)), dpll.Unsat},
	} {
		k.can(q.l, endless, q.kind)
		k.can(q.l, math.MaxInt, q.kind)
		slices.Reverse(q.l)
		k.can(q.l, endless, q.kind)
	}
}

// TestCanOfOneWay: where there is but one assignment, it is that one; Vars that stand in l, but do not matter, may be any.
func TestCanOfOneWay(t *testing.T) {
	k := start(t)
	x, y, u, b := k.id(8, 1), k.id(8, 40), k.id(16, 63), k.id(1, 0)
	l := list(k.not(b), k.is(k.two(api.Xor, x, y), 0xf0), k.less(x, 16), k.is(k.two(api.And, y, k.num(8, 15)), 9), k.is(k.two(api.Add, u, k.num(16, 5)), 2))
	want := make([]uint16, api.MaxVars)
	want[1], want[40], want[63] = 9, 0xf9, 0xfffd
	if env := k.can(l, endless, dpll.Sat); !slices.Equal(env, want) {
		t.Errorf("%v, want %v", env, want)
	}
	k.can(append(l, k.two(api.Eq, k.id(8, 2), k.id(8, 2)), k.two(api.Eq, k.id(16, 3), k.id(16, 3))), endless, dpll.Sat)
}

// TestVarsThatStandNot: they are 0, though they are of the arena, and of what was asked ahead.
func TestVarsThatStandNot(t *testing.T) {
	k := start(t)
	for id := range api.MaxVars {
		k.id(widths[id%3], id)
	}
	all, none := make([]term.T, api.MaxVars), make([]term.T, api.MaxVars)
	for id := range all {
		x := k.id(widths[id%3], id)
		all[id], none[id] = k.not(k.is(x, 0)), k.is(x, 0)
	}
	k.can(all, endless, dpll.Sat)
	for id := range api.MaxVars { // meets holds the assignments against the Vars that stand in l
		k.can(all[id:id+1], endless, dpll.Sat)
		k.can(append(slices.Clone(all[:id]), none[id:]...), endless, dpll.Sat)
		k.can(append(slices.Clone(all[id:]), none[id]), endless, dpll.Unsat)
	}
}

// TestUnknown: with few decisions a question may be Unknown, and then there is no assignment; else the answer is the same as with many; with 2^40 and more it never is.
func TestUnknown(t *testing.T) {
	for _, q := range []struct {
		product uint16
		kind    int
	}{{62499, dpll.Sat}, {62497, dpll.Unsat}} { // 249 * 251; a prime number
		k := start(t)
		l, _, _ := k.product(2, q.product)
		k.can(l, 0, dpll.Unknown)
		for _, budget := range []int{endless - 1, endless, endless + 1, 1 << 62, math.MaxInt} {
			k.can(l, budget, q.kind)
		}
		known := 0
		for _, budget := range []int{1, 2, 3, 5, 8, 20, 50, 100, 1000, 10000, 100000} {
			kind, env, e := Can(k.Arena, l, budget)
			switch {
			case e != api.OK || kind != dpll.Unknown && kind != q.kind || kind == dpll.Unknown && known > 0 || kind != dpll.Sat && len(env) != 0:
				t.Errorf("Can(.., %d) = %d, %v, %d", budget, kind, env, int(e))
			case kind != dpll.Unknown:
				known++
			}
		}
		if known == 0 || known == 11 {
			t.Errorf("%d of 11 budgets are enough", known)
		}
	}
}

// TestUnknownBesideOthers: what needs no decision is seen at once, so that what is impossible by itself is Unsat, whatever stands beside it.
func TestUnknownBesideOthers(t *testing.T) {
	k := start(t)
	l, _, _ := k.product(2, 62499)
	x, b := k.id(8, 9), k.id(1, 10)
	k.can(append(list(k.less(x, 9), b), l...), 0, dpll.Unknown)
	k.can(append(list(k.less(x, 9), b), l...), endless, dpll.Sat)
	for _, budget := range []int{0, 1, endless} {
		k.can(append(list(k.less(x, 0)), l...), budget, dpll.Unsat)
		k.can(append(slices.Clone(l), b, k.not(b)), budget, dpll.Unsat)
	}
}

// TestTold: what says which number a Var has, either way round, with noughts ahead or without, and what says so twice.
func TestTold(t *testing.T) {
	k := start(t)
	x, y, b, u := k.id(8, 1), k.id(8, 2), k.id(1, 3), k.id(16, 4)
	for _, q := range []struct {
		x  term.T
		id int
		v  uint16
	}{
		{k.two(api.Eq, x, k.num(8, 200)), 1, 200},
		{k.two(api.Eq, k.num(8, 200), x), 1, 200},
		{k.two(api.Eq, k.ext(16, x), k.num(16, 200)), 1, 200},
		{k.two(api.Eq, k.num(16, 0), k.ext(16, x)), 1, 0},
		{k.two(api.Eq, k.ext(16, k.ext(8, b)), k.num(16, 1)), 3, 1},
		{k.two(api.Eq, b, k.num(1, 0)), 3, 0},
		{b, 3, 1},
		{k.not(b), 3, 0},
		{k.is(u, 0x8001), 4, 0x8001},
	} {
		env := k.can(list(q.x), 0, dpll.Sat)
		if env[q.id] != q.v {
			t.Errorf("term %d: Var %d is %d, want %d", q.x, q.id, env[q.id], q.v)
		}
		k.values(list(q.x), k.id(k.wide(q.id), q.id), 1, 0, q.v)
		k.can(list(q.x, k.not(q.x)), endless, dpll.Unsat)
	}
	e := k.ext(16, x)
	for _, l := range [][]term.T{ // what is too great for the Var
		{k.is(e, 256)}, {k.is(e, 300), k.is(x, 44)}, {k.is(x, 44), k.is(e, 300)}, {k.is(k.ext(8, b), 2)}, {k.is(k.ext(16, b), 0x101), b}, {k.is(x, 1), k.is(x, 2)}, {k.is(x, 1), k.is(e, 2)},
	} {
		k.can(l, endless, dpll.Unsat)
		k.values(l, x, 0, endless)
		k.values(l, y, 0, endless)
	}
	k.can(list(k.is(x, 3), k.is(k.two(api.Mul, k.ext(16, x), k.ext(16, y)), 700)), endless, dpll.Unsat)
	if env := k.can(list(k.is(x, 3), k.is(k.two(api.Mul, k.ext(16, x), u), 2), k.less(u, 30000)), endless, dpll.Sat); env[4] != 21846 {
		t.Errorf("3 times %d", env[4])
	}
}

// TestSharedParts: an And of an And with itself, so often that its parts, gone through one by one, would be too many.
func TestSharedParts(t *testing.T) {
	k := start(t)
	b, c := k.id(1, 0), k.id(1, 1)
	x := k.two(api.Or, b, c)
	for range 100 {
		x = k.two(api.And, x, x)
	}
	k.can(list(x), endless, dpll.Sat)
	k.can(list(x, k.not(b), k.not(c)), endless, dpll.Unsat)
	k.values(list(x, k.not(b)), c, 1, endless, 1)
}

// TestManyTerms: as many as there is room for, each asking for a little more.
func TestManyTerms(t *testing.T) {
	k := start(t)
	x, y := k.id(16, 0), k.id(16, 1)
	var l []term.T
	for v := uint16(0); len(l) < 20000; v++ {
		l = append(l, k.not(k.is(x, v)))
	}
	k.can(l, endless, dpll.Sat)
	k.can(append(l, k.less(x, 20001)), endless, dpll.Sat)
	k.can(append(l, k.less(x, 20000)), endless, dpll.Unsat)
	k.values(append(l, k.less(x, 20003)), x, 3, endless, 20000, 20001, 20002)
	k.values(append(l, k.less(x, 20003), k.two(api.Eq, x, y)), y, 3, endless, 20000, 20001, 20002)
}
