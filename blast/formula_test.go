package blast

import (
	"math/rand"
	"slices"
	"testing"

	"crossroads/api"
	"crossroads/dpll"
	"crossroads/term"
)

// TestFormulaAheadOfBits: of no bits there is one assignment.
func TestFormulaAheadOfBits(t *testing.T) {
	k := start(t)
	k.two(api.Add, k.id(8, 0), k.num(8, 7))
	n, f := k.b.Formula()
	if many, e := dpll.Count(n, f, 9); many != 1 || e != api.OK {
		t.Errorf("Formula of nothing: %d, %v: %d assignments, %d", n, f, many, int(e))
	}
	if n != 0 || len(f) != 0 {
		t.Errorf("Formula of nothing: %d, %v", n, f)
	}
	k.stands([][]uint16{nil})
	k.refused(0, api.ErrArg)
	k.stands([][]uint16{nil})
}

// fixed answers the clauses that make x hold where way's bit says so, and else not.
func fixed(x []int, way uint16) (f [][]int) {
	for i, l := range x {
		if way>>i&1 == 0 {
			l = -l
		}
		f = append(f, []int{l})
	}
	return f
}

// given answers the clauses that give the Vars that were asked for their bits under env.
func (k *asker) given(env []uint16) (f [][]int) {
	for id, w := range k.vars() {
		var x []int
		for i := range w {
			l, _ := k.b.Bit(id, i)
			x = append(x, l)
		}
		f = append(f, fixed(x, append(slices.Clone(env), make([]uint16, api.MaxVars)...)[id])...)
	}
	return f
}

// counted fails the test where the number of assignments is not one for each of the Vars' bits, or where one of them goes with none, or gives what was asked for another value. The formula is small.
func (k *asker) counted(envs [][]uint16) {
	k.Helper()
	n, f := k.b.Formula()
	count := func(f [][]int) int {
		many, e := dpll.Count(n, f, 1<<30)
		if e != api.OK {
			k.Fatalf("Count of %d variables, %d clauses: %d", n, len(f), int(e))
		}
		return many
	}
	if many := count(f); many != len(envs) {
		k.Errorf("%d assignments, want %d: %d, %v", many, len(envs), n, f)
	}
	for _, env := range envs {
		g := append(slices.Clone(f), k.given(env)...)
		if many := count(g); many != 1 {
			k.Errorf("%d assignments under %v: %d, %v", many, env, n, f)
		}
		for _, a := range k.told {
			if many := count(append(slices.Clone(g), fixed(a.l, k.Eval(a.x, env))...)); many != 1 {
				k.Errorf("term %d is not %d under %v: %v of %d, %v", a.x, k.Eval(a.x, env), env, a.l, n, f)
			}
		}
	}
}

// TestJustOneOfEach: of few bits, all assignments counted.
func TestJustOneOfEach(t *testing.T) {
	for _, op := range pairs {
		k := start(t)
		x, y, c := k.id(1, 0), k.id(1, 1), k.id(1, 2)
		k.ask(k.two(op, x, y))
		k.counted(each(1, 1))
		k.ask(k.two(op, k.ite(c, x, k.not(y)), k.num(1, 1)))
		k.ask(k.two(op, y, x))
		k.counted(each(1, 1, 1))
		for _, v := range []uint16{0, 1, 3, 9, 200} {
			k = start(t)
			x = k.ext(8, k.id(1, 0))
			k.ask(k.two(op, x, k.num(8, v)))
			k.ask(k.two(op, k.num(8, v), x))
			k.counted(each(1))
		}
	}
	k := start(t)
	x := k.id(8, 0)
	k.ask(k.two(api.Lt, x, k.num(8, 100)))
	k.ask(k.cut(1, k.not(x)))
	k.ask(k.num(16, 0xabcd))
	k.counted(each(8))
}

// TestVarsThatDoNotMatter: what was asked for hangs on none of its bits, and yet all of them are there, open both ways.
func TestVarsThatDoNotMatter(t *testing.T) {
	for _, f := range []func(k *asker, x term.T) term.T{
		func(k *asker, x term.T) term.T { return k.two(api.Xor, x, x) },
		func(k *asker, x term.T) term.T { return k.two(api.And, x, k.num(8, 0)) },
		func(k *asker, x term.T) term.T { return k.two(api.Mul, k.num(8, 0), x) },
		func(k *asker, x term.T) term.T { return k.two(api.Shr, x, k.num(8, 8)) },
		func(k *asker, x term.T) term.T { return k.two(api.Eq, x, k.not(x)) },
		func(k *asker, x term.T) term.T { return k.two(api.Div, x, k.num(8, 0)) },
		func(k *asker, x term.T) term.T { return k.two(api.Lt, x, k.num(8, 0)) },
		func(k *asker, x term.T) term.T { return k.cut(1, k.two(api.Shl, x, k.num(8, 1))) },
		func(k *asker, x term.T) term.T { return k.ite(k.two(api.Lt, x, x), k.num(8, 5), k.num(8, 5)) },
	} {
		k := start(t)
		k.ask(f(k, k.id(8, 4)))
		var envs [][]uint16
		for v := range uint16(256) {
			envs = append(envs, []uint16{0, 0, 0, 0, v})
		}
		k.counted(envs)
		k.stands(envs)
	}
}

// TestJustOneOfMany: of more variables, with a solver: another one that goes with the same bits there is not.
func TestJustOneOfMany(t *testing.T) {
	r := rand.New(rand.NewSource(11))
	for _, w := range widths {
		for _, op := range pairs {
			k := start(t)
			k.ask(k.ite(k.id(1, 2), k.two(op, k.id(w, 0), k.id(w, 1)), k.two(op, k.id(w, 1), k.id(w, 0))))
			n, f := k.b.Formula()
			for range 5 {
				g := append(slices.Clone(f), k.given(some(r, 3, 4)[3])...)
				kind, m, e := dpll.Solve(n, g, 1<<40)
				if kind != dpll.Sat || e != api.OK {
					t.Fatalf("operator %d of width %d: %d, %d", op, w, kind, int(e))
				}
				var other []int
				for v, is := range m {
					if is {
						other = append(other, -v-1)
					} else {
						other = append(other, v+1)
					}
				}
				if kind, _, _ := dpll.Solve(n, append(g, other), 1<<40); kind != dpll.Unsat {
					t.Errorf("operator %d of width %d: another assignment: %d", op, w, kind)
				}
			}
		}
	}
}

// mayDiffer tells whether there are truths under which two terms of one width have another bit.
func (k *asker) mayDiffer(x, y term.T) bool {
	k.Helper()
	u, v := k.ask(x), k.ask(y)
	n, f := k.b.Formula()
	for i := range u {
		for _, way := range [][][]int{{{u[i]}, {-v[i]}}, {{-u[i]}, {v[i]}}} {
			kind, _, e := dpll.Solve(n, append(slices.Clone(f), way...), 1<<40)
			if e != api.OK {
				k.Fatalf("Solve of %d variables, %d clauses: %d", n, len(f), int(e))
			}
			if kind != dpll.Unsat {
				return true
			}
		}
	}
	return false
}

// TestWhatIsAlikeUnderAll: terms that are alike under each assignment a solver finds alike, others it does not.
func TestWhatIsAlikeUnderAll(t *testing.T) {
	for _, w := range widths {
		k := start(t)
		x, y, o, one := k.id(w, 0), k.id(w, 1), k.num(w, 0), k.num(w, 1)
		two := func(op int, x, y term.T) term.T { return k.two(op, x, y) }
		few := two(api.And, y, k.num(w, 3))
		for i, p := range [][2]term.T{
			{two(api.Sub, two(api.Add, x, y), y), x}, {two(api.Xor, two(api.Xor, x, y), y), x}, {two(api.Sub, o, x), two(api.Add, k.not(x), one)},
			{two(api.And, x, y), k.not(two(api.Or, k.not(x), k.not(y)))}, {two(api.Mul, x, y), two(api.Mul, y, x)}, {two(api.Shl, x, one), two(api.Add, x, x)},
			{two(api.Mul, x, k.num(w, 3)), two(api.Add, x, two(api.Shl, x, one))}, {two(api.Div, x, o), k.not(o)}, {two(api.Mod, x, o), x},
			{two(api.Add, two(api.Mul, two(api.Div, x, few), few), two(api.Mod, x, few)), x}, {two(api.Or, two(api.Lt, y, x), two(api.Eq, x, y)), k.not(two(api.Lt, x, y))},
		} {
			if k.mayDiffer(p[0], p[1]) {
				t.Errorf("width %d: the terms of pair %d may differ", w, i)
			}
		}
		for i, p := range [][2]term.T{{x, y}, {x, two(api.Add, x, one)}, {two(api.Mul, x, y), two(api.Div, x, y)}, {two(api.Lt, x, y), two(api.Lt, y, x)}, {o, few}, {o, one}} {
			if !k.mayDiffer(p[0], p[1]) {
				t.Errorf("width %d: the terms of other pair %d may not differ", w, i)
			}
		}
	}
}

// TestTheSameOnceMore: what is told hangs on the questions alone.
func TestTheSameOnceMore(t *testing.T) {
	for seed := range int64(8) {
		var told [2][]answer
		var n [2]int
		var f [2][][]int
		for i := range 2 {
			k := start(t)
			for _, x := range k.growth(rand.New(rand.NewSource(seed)), 100) {
				k.ask(x)
			}
			told[i] = k.told
			n[i], f[i] = k.b.Formula()
		}
		if n[0] != n[1] || !slices.EqualFunc(f[0], f[1], slices.Equal) || !slices.EqualFunc(told[0], told[1], func(p, q answer) bool { return p.x == q.x && slices.Equal(p.l, q.l) }) {
			t.Errorf("seed %d: the same questions are answered in two ways", seed)
		}
	}
}
