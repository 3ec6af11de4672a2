package ask

import (
	"maps"
	"math/rand"
	"slices"
	"testing"

	"crossroads/api"
	"crossroads/dpll"
	"crossroads/term"
)

// under answers the values of x under those assignments under which all of l are 1, rising: none, if there is no such assignment.
func (k asker) under(envs [][]uint16, l []term.T, x term.T) []uint16 {
	seen := map[uint16]struct{}{}
	for _, env := range envs {
		if !slices.ContainsFunc(l, func(y term.T) bool { return k.Eval(y, env) == 0 }) {
			seen[k.Eval(x, env)] = struct{}{}
		}
	}
	return slices.Sorted(maps.Keys(seen))
}

// bySolver fails the test where the solver, asked of all terms in one, says anything but what is so.
func (k asker) bySolver(l []term.T, x term.T, want []uint16) {
	k.Helper()
	q := &question{arena: k.Arena, env: make([]uint16, api.MaxVars)}
	g := group{terms: l}
	for _, y := range l {
		g.vars |= q.open(y)
	}
	kind, e := q.ask(g, endless)
	if e != api.OK || kind != dpll.Sat && kind != dpll.Unsat || (kind == dpll.Sat) != (len(want) > 0) {
		k.Fatalf("the solver says %d, %d of %v; there are values %v", kind, int(e), l, want)
	}
	if kind == dpll.Sat {
		k.meets(l, q.env)
	}
	if r, ok, e := q.askValues(g, x, len(want), endless); !ok || e != api.OK || !slices.Equal(r, want) {
		k.Fatalf("by the solver term %d is %v, %v, %d where %v; want %v", x, r, ok, int(e), l, want)
	}
	if len(want) > 0 {
		if r, ok, e := q.askValues(g, x, len(want)-1, endless); ok || e != api.OK || len(r) != 0 {
			k.Fatalf("by the solver term %d is %v, %v, %d where %v; there are more", x, r, ok, int(e), l)
		}
	}
}

// TestAgainstAllAssignments: of random terms of few bits, what Can and Values say, held against all assignments.
func TestAgainstAllAssignments(t *testing.T) {
	seen := [2]int{}
	for i, s := range []struct {
		shape
		many int
	}{
		{shape{}, 60}, {shape{5: 1}, 100}, {shape{0: 1, 1: 1, 2: 1, 62: 1, 63: 1}, 400}, {shape{7: 8}, 500}, {shape{0: 8, 1: 1, 2: 1}, 400}, {shape{0: 1, 30: 8, 63: 1, 3: 1}, 200}, {shape{0: 8, 1: 8}, 60}, {shape{0: 16}, 60},
	} {
		envs := s.envs()
		for seed := range int64(s.many) {
			r := rand.New(rand.NewSource(1000*int64(i) + seed))
			k := start(t)
			by := k.growth(r, s.shape, 40)
			var l []term.T
			for range r.Intn(5) {
				y := by[1][r.Intn(len(by[1]))]
				if _, known := k.Known(y); !known || r.Intn(8) == 0 {
					l = append(l, y)
				}
			}
			w := widths[r.Intn(3)]
			x := by[w][r.Intn(len(by[w]))]
			want := k.under(envs, l, x)
			k.agrees(l, x, want)
			if seed%4 == 0 {
				k.bySolver(l, x, want)
			}
			seen[min(1, len(want))]++
		}
	}
	if seen[0] < 300 || seen[1] < 700 {
		t.Errorf("%d questions were impossible, %d possible", seen[0], seen[1])
	}
}

// agrees fails the test where Can and Values say anything but what is so; with few decisions they may say that they don't know.
func (k asker) agrees(l []term.T, x term.T, want []uint16) {
	k.Helper()
	right := dpll.Unsat
	if len(want) > 0 {
		right = dpll.Sat
		k.noValues(l, x, len(want)-1, endless)
		k.noValues(l, x, 0, endless)
	}
	k.can(l, endless, right)
	k.values(l, x, len(want), endless, want...)
	k.values(l, x, len(want)+1, endless, want...)
	for _, budget := range []int{0, 1, 3, 10} {
		kind, env, e := Can(k.Arena, l, budget)
		if e != api.OK || kind != right && kind != dpll.Unknown || kind != dpll.Sat && len(env) != 0 {
			k.Fatalf("Can(%v, %d) = %d, %v, %d", l, budget, kind, env, int(e))
		}
		if kind == dpll.Sat {
			k.meets(l, env)
		}
		r, ok, e := Values(k.Arena, l, x, 1<<16, budget)
		if e != api.OK || ok && !slices.Equal(r, want) || !ok && len(r) != 0 {
			k.Fatalf("Values(%v, %d, .., %d) = %v, %v, %d; want %v", l, x, budget, r, ok, int(e), want)
		}
	}
}

// TestEachOperator: of two Vars of 8 bits, what each operator makes of them, and where it is above a number.
func TestEachOperator(t *testing.T) {
	s := shape{0: 8, 1: 8}
	envs := s.envs()
	for op := api.And; op <= api.Lt; op++ {
		k := start(t)
		x, y := k.id(8, 0), k.id(8, 1)
		z := k.two(op, x, y)
		l := list(k.two(api.Lt, k.num(k.Width(z), 0), z), k.two(api.Lt, k.num(8, 3), x), k.less(y, 40))
		for _, v := range list(z, k.two(api.Sub, x, y)) {
			want := k.under(envs, l, v)
			k.values(l, v, len(want), endless, want...)
			k.bySolver(l, v, want)
		}
		k.can(l, endless, dpll.Sat)
	}
}

// TestManyGroups: terms that hang on Vars of their own, through others on each other's, and on all; each assignment is one of all of them together.
func TestManyGroups(t *testing.T) {
	for seed := range int64(40) {
		r := rand.New(rand.NewSource(seed))
		k := start(t)
		s := shape{}
		for id := range 10 {
			s[r.Intn(api.MaxVars)] = []int{1, 8, 8, 16}[(id+int(seed))%4]
		}
		ids := s.ids()
		env := make([]uint16, api.MaxVars)
		for _, id := range ids {
			env[id] = uint16(r.Intn(1<<16)) & (1<<s[id] - 1)
		}
		at := func() term.T { id := ids[r.Intn(len(ids))]; return k.ext(16, k.id(s[id], id)) }
		var l []term.T // all of them are 1 under env
		for range 12 {
			x := k.two([]int{api.Add, api.Xor, api.Or, api.And, api.Sub}[r.Intn(5)], at(), at())
			if r.Intn(3) == 0 {
				x = at()
			}
			switch v := k.Eval(x, env); {
			case r.Intn(2) == 0 || v == 0:
				l = append(l, k.is(x, v))
			default:
				l = append(l, k.two(api.Lt, k.num(16, v-1), x))
			}
		}
		k.can(l, endless, dpll.Sat)
		x := k.two(api.Add, at(), at())
		if v, ok, _ := Values(k.Arena, l, x, 300, endless); ok && !slices.Contains(v, k.Eval(x, env)) {
			t.Fatalf("Values(%v, %d) = %v without %d", l, x, v, k.Eval(x, env))
		}
		with := append(slices.Clone(l), k.is(x, k.Eval(x, env)))
		k.can(with, endless, dpll.Sat)
		k.values(with, x, 1, endless, k.Eval(x, env))
		k.can(append(with, k.not(with[r.Intn(len(with))])), endless, dpll.Unsat)
	}
}
