package ask

import (
	"slices"
	"testing"

	"crossroads/api"
	"crossroads/dpll"
	"crossroads/term"
)

// huge is a term that takes more variables than there may be; it hangs on two Vars of 16 bits.
func (k asker) huge() term.T {
	k.Helper()
	x, y := k.id(16, 60), k.id(16, 61)
	z := x
	for i := range 400 {
		z = k.two(api.Add, k.two(api.Mul, z, y), k.num(16, uint16(2*i+1)))
	}
	return z
}

// TestFull: what takes more variables than there may be is refused, again and again, and changes nothing; with what is seen ahead beside it, it need not be asked.
func TestFull(t *testing.T) {
	k := start(t)
	z := k.huge()
	b, x := k.id(1, 0), k.id(8, 1)
	small, l, bit := list(b, k.less(x, 3)), list(k.is(z, 77)), k.cut(1, z)
	nodes := k.nodes()
	for _, budget := range []int{0, endless} {
		for range 2 {
			k.refused(l, x, 9, budget, api.ErrFull)
			k.refused(append(slices.Clone(small), l...), x, 9, budget, api.ErrFull)
			k.refusedValues(l, k.id(16, 60), 9, budget, api.ErrFull)
			k.refusedValues(nil, z, 1<<16, budget, api.ErrFull)
			k.refusedValues(nil, z, 0, budget, api.ErrFull)
			k.refusedValues(small, bit, 9, budget, api.ErrFull)
			k.refused(append(slices.Clone(l), 0), x, 9, budget, api.ErrArg)
			k.refused(append(slices.Clone(l), x), x, 9, budget, api.ErrWidth)
			k.refusedValues(l, 0, 9, budget, api.ErrArg)
		}
	}
	if !slices.Equal(k.nodes(), nodes) {
		t.Error("what is refused changes terms, or adds some")
	}
	k.can(append(small, k.not(b)), endless, dpll.Unsat)
	k.values(small, x, 3, endless, 0, 1, 2)
	k.values(append(slices.Clone(small), k.is(k.id(16, 60), 9), k.is(k.id(16, 61), 7)), z, 1, 0, k.Eval(z, append(make([]uint16, 60), 9, 7)))
}

// nodes answers all that stands in the arena.
func (k asker) nodes() []term.Node {
	var l []term.Node
	for x := term.T(1); int(x) <= k.Len(); x++ {
		n, _ := k.Node(x)
		l = append(l, n)
	}
	return l
}

// TestFullArena: one without room for another term is asked as well, by what is seen ahead, and by the solver.
func TestFullArena(t *testing.T) {
	k := start(t)
	b, x, u, v := k.id(1, 0), k.id(8, 1), k.id(16, 2), k.id(16, 3)
	p, y, z := k.product(10, 62499)
	few := list(b, k.less(x, 3))
	sum := list(k.is(k.two(api.Add, u, v), 7), k.less(u, 3))
	less, no := k.less(x, 0), k.not(b)
	for i := 0; k.Len() < api.MaxTerms; i++ {
		k.num(16, uint16(i))
	}
	nodes := k.nodes()
	k.can(few, 0, dpll.Sat)
	k.can(sum, endless, dpll.Sat)
	k.can(append(slices.Clone(few), no), endless, dpll.Unsat)
	k.can(append(slices.Clone(sum), less), endless, dpll.Unsat)
	k.can(p, endless, dpll.Sat)
	k.can(p, 0, dpll.Unknown)
	k.values(few, x, 3, 0, 0, 1, 2)
	k.values(sum, v, 3, endless, 5, 6, 7)
	k.values(append(slices.Clone(sum), p...), y, 1, endless, 249)
	k.noValues(p, z, 0, endless)
	if !slices.Equal(k.nodes(), nodes) {
		t.Error("a question changes terms")
	}
}

// TestTermsStay: a question changes no term that there is; one that is made later is as it would be.
func TestTermsStay(t *testing.T) {
	k := start(t)
	b, x, u, v := k.id(1, 0), k.id(8, 1), k.id(16, 2), k.id(16, 3)
	sum := k.two(api.Add, u, k.two(api.Mul, v, k.ext(16, x)))
	l := list(k.two(api.Or, b, k.less(x, 9)), k.two(api.Lt, sum, u), k.is(v, 700), k.two(api.And, b, k.less(u, 900)))
	envs := [][]uint16{nil, {1, 200, 7, 1000}, {0, 255, 65535, 3}, {1, 3, 800, 700}}
	nodes := k.nodes()
	var worth []uint16
	for x := range nodes {
		for _, env := range envs {
			worth = append(worth, k.Eval(term.T(x+1), env))
		}
	}
	for range 3 {
		k.can(l, endless, dpll.Sat)
		k.can(append(slices.Clone(l), k.not(l[1])), endless, dpll.Unsat)
		k.noValues(l, sum, 20, endless)
		k.values(l, v, 20, endless, 700)
		k.values(l, b, 20, endless, 1)
		var again []uint16
		for x := range nodes {
			for _, env := range envs {
				again = append(again, k.Eval(term.T(x+1), env))
			}
		}
		if !slices.Equal(k.nodes()[:len(nodes)], nodes) || !slices.Equal(worth, again) {
			t.Fatal("a question changes terms")
		}
		if k.two(api.Add, u, k.two(api.Mul, v, k.ext(16, x))) != sum || k.id(8, 1) != x || k.num(16, 700) > term.T(len(nodes)) {
			t.Fatal("what is there is another term after a question")
		}
	}
}
