package blast

import (
	"math/rand"
	"slices"
	"testing"

	"crossroads/api"
	"crossroads/term"
)

func TestTheExample(t *testing.T) {
	k := start(t)
	if l := k.ask(k.id(8, 0)); len(l) != 8 {
		t.Errorf("Bits of a Var of width 8: %v", l)
	}
	k.stands(each(8))
}

func TestNumbers(t *testing.T) {
	for _, w := range widths {
		for _, v := range edges {
			k := start(t)
			k.ask(k.num(w, v))
			k.stands([][]uint16{nil})
		}
		k := start(t)
		for _, v := range edges {
			k.ask(k.num(w, v))
		}
		k.ask(k.id(8, 0))
		k.stands(each(8))
	}
}

func TestVars(t *testing.T) {
	for _, w := range widths {
		for _, id := range []int{0, 1, 7, 31, 32, api.MaxVars - 1} {
			k := start(t)
			k.id(8, 2)
			k.ask(k.id(w, id))
			env := make([]uint16, api.MaxVars)
			var envs [][]uint16
			for v := range 1 << w {
				env[id] = uint16(v)
				envs = append(envs, slices.Clone(env))
				if w == 16 && v%251 > 0 {
					envs = envs[:len(envs)-1]
				}
			}
			k.stands(append(envs, nil))
		}
	}
}

func TestAllVars(t *testing.T) {
	k := start(t)
	for id := range api.MaxVars {
		k.ask(k.id(widths[id%3], id))
	}
	k.stands(some(rand.New(rand.NewSource(1)), api.MaxVars, 200))
}

// halves are pairs of operands: the two Vars in both orders, one twice, and a Var with each of these numbers.
func (k *asker) halves(w int, numbers []uint16) [][2]term.T {
	x, y := k.id(w, 0), k.id(w, 1)
	l := [][2]term.T{{x, y}, {y, x}, {x, x}}
	for _, v := range numbers {
		l = append(l, [2]term.T{x, k.num(w, v)}, [2]term.T{k.num(w, v), x})
	}
	return l
}

// TestOperatorsOfOneBit: under all assignments.
func TestOperatorsOfOneBit(t *testing.T) {
	all := start(t)
	for _, op := range pairs {
		for _, p := range all.halves(1, []uint16{0, 1}) {
			all.ask(all.two(op, p[0], p[1]))
			k := start(t)
			k.halves(1, []uint16{0, 1})
			k.ask(k.two(op, p[0], p[1]))
			k.stands(each(1, 1))
		}
	}
	all.stands(each(1, 1))
}

// TestOperatorsOfEightBits: under all assignments.
func TestOperatorsOfEightBits(t *testing.T) {
	both, one := each(8, 8), each(8)
	for _, op := range pairs {
		k := start(t)
		for i, p := range k.halves(8, edges) {
			k.b, k.told = New(k.Arena), nil
			k.ask(k.two(op, p[0], p[1]))
			if i < 2 {
				k.stands(both)
			} else {
				k.stands(one)
			}
		}
	}
}

func TestOperatorsOfSixteenBits(t *testing.T) {
	both := twos(rand.New(rand.NewSource(2)), 1500)
	var one [][]uint16
	for v := range 1 << 9 {
		one = append(one, []uint16{uint16(v * 127)}, []uint16{uint16(v)})
	}
	for _, op := range pairs {
		k := start(t)
		for i, p := range k.halves(16, edges) {
			k.b, k.told = New(k.Arena), nil
			k.ask(k.two(op, p[0], p[1]))
			if i < 2 {
				k.stands(both)
			} else {
				k.stands(one)
			}
		}
	}
}

// is fails the test where what was told last is not worth want under env.
func (k *asker) is(env []uint16, want uint16) {
	k.Helper()
	n, f := k.b.Formula()
	l := k.lanes(n, k.vars(), [][]uint16{env})
	l.follow(f)
	v := uint16(0)
	for i, x := range k.told[len(k.told)-1].l {
		v |= uint16(l.holds(x)&1) << i
	}
	if v != want {
		k.Errorf("term %d is %d under %v, want %d", k.told[len(k.told)-1].x, v, env, want)
	}
}

// TestDivisionByNought: all ones, and what was to be divided.
func TestDivisionByNought(t *testing.T) {
	for _, w := range widths {
		ones := uint16(1<<w - 1)
		k := start(t)
		x, y, o := k.id(w, 0), k.id(w, 1), k.num(w, 0)
		for _, v := range edges {
			for _, by := range []term.T{y, o, k.two(api.Xor, y, y), k.two(api.And, y, o)} {
				k.ask(k.two(api.Div, x, by))
				k.is([]uint16{v, 0}, ones)
				k.ask(k.two(api.Mod, x, by))
				k.is([]uint16{v, 0}, v&ones)
			}
		}
		k.ask(k.two(api.Div, o, y))
		k.is(nil, ones)
		k.ask(k.two(api.Mod, o, y))
		k.is(nil, 0)
	}
}

// TestShiftsByTheWidthAndMore: 0; by one less just one bit is left.
func TestShiftsByTheWidthAndMore(t *testing.T) {
	for _, w := range widths {
		ones := uint16(1<<w - 1)
		k := start(t)
		x, y := k.id(w, 0), k.id(w, 1)
		for _, op := range []int{api.Shl, api.Shr} {
			for by := uint16(w); by < 40 && by <= ones; by++ {
				for _, count := range []term.T{y, k.num(w, by)} {
					k.ask(k.two(op, x, count))
					k.is([]uint16{0xffff, by}, 0)
				}
			}
			k.ask(k.two(op, x, y))
			if w > 1 {
				k.is([]uint16{0xffff, ones}, 0)
				k.is([]uint16{0xffff, 1 << (w - 1)}, 0)
			}
		}
		k.ask(k.two(api.Shl, x, y))
		k.is([]uint16{0xffff, uint16(w - 1)}, 1<<(w-1))
		k.is([]uint16{0xffff, 0}, ones)
		k.ask(k.two(api.Shr, x, y))
		k.is([]uint16{0xffff, uint16(w - 1)}, 1)
		k.is([]uint16{0xffff, 0}, ones)
		if w == 1 {
			k.is([]uint16{1, 1}, 0)
		}
	}
}

func TestNot(t *testing.T) {
	for _, w := range widths {
		k := start(t)
		x := k.id(w, 0)
		k.ask(k.not(x))
		k.is([]uint16{0}, 1<<w-1)
		k.is([]uint16{1}, (1<<w-1)&^1)
		k.ask(k.not(k.not(x)))
		k.ask(k.not(k.two(api.Add, x, k.not(x))))
		k.stands(each(min(w, 8)))
	}
}

func TestIte(t *testing.T) {
	for _, w := range widths {
		k := start(t)
		x, y, c, d := k.id(w, 0), k.id(w, 1), k.id(1, 2), k.id(1, 3)
		for _, z := range []term.T{
			k.ite(c, x, y), k.ite(k.not(c), x, y), k.ite(c, x, k.not(x)), k.ite(c, k.not(x), k.not(y)), k.ite(c, x, k.num(w, 1)), k.ite(c, k.num(w, 0x81), y),
			k.ite(c, k.num(w, 3), k.num(w, 0x8002)), k.ite(d, k.ite(c, x, y), k.ite(c, y, x)), k.ite(k.two(api.Lt, x, y), x, y), k.ite(k.two(api.And, c, d), y, x),
			k.ite(c, x, x), k.ite(k.two(api.Xor, c, c), x, y), k.ite(k.two(api.Eq, d, d), x, y), k.ite(c, k.ext(w, c), y), k.ite(c, x, k.ext(w, c)),
		} {
			k.ask(z)
		}
		var envs [][]uint16
		for _, e := range some(rand.New(rand.NewSource(3)), 2, 60) {
			for way := range uint16(4) {
				envs = append(envs, append(append(slices.Clone(e), 0, 0)[:2], way&1, way>>1))
			}
		}
		k.stands(envs)
	}
}

func TestExtAndCut(t *testing.T) {
	for id, w := range widths {
		k := start(t)
		x := k.id(w, id)
		for _, o := range widths {
			if o >= w {
				k.ask(k.ext(o, x))
				k.ask(k.not(k.ext(o, x)))
				k.ask(k.two(api.Add, k.ext(o, x), k.ext(o, x)))
			}
			if o <= w {
				k.ask(k.cut(o, x))
				k.ask(k.ext(w, k.cut(o, x)))
				k.ask(k.cut(o, k.two(api.Mul, x, x)))
				k.ask(k.ext(16, k.cut(o, k.not(x))))
			}
		}
		var envs [][]uint16
		for v := range 1 << 8 {
			envs = append(envs, []uint16{uint16(v), uint16(v), uint16(v * 257)}, []uint16{1, 0, uint16(v * 255)})
		}
		k.stands(envs)
	}
}

// TestRandomTerms: asked for in any order, some of them, some twice.
func TestRandomTerms(t *testing.T) {
	for seed := range int64(60) {
		r := rand.New(rand.NewSource(seed))
		k := start(t)
		l := k.growth(r, 20+r.Intn(120))
		for range 1 + r.Intn(25) {
			k.ask(l[r.Intn(len(l))])
		}
		k.stands(some(r, 10, 128))
	}
}

// TestOnceAndTwice: the same literals again, and the formula is as it was.
func TestOnceAndTwice(t *testing.T) {
	k := start(t)
	for _, x := range k.growth(rand.New(rand.NewSource(5)), 100) {
		l := k.ask(x)
		n, f := k.b.Formula()
		if m := k.ask(x); !slices.Equal(l, m) {
			t.Errorf("Bits(%d) = %v, and once more %v", x, l, m)
		}
		if m, g := k.b.Formula(); m != n || !slices.EqualFunc(f, g, slices.Equal) {
			t.Errorf("Bits(%d) once more makes %d variables of %d, %d clauses of %d", x, m, n, len(g), len(f))
		}
	}
	k.stands(some(rand.New(rand.NewSource(6)), 10, 64))
}

// TestAPartOfAnother: asked for ahead of it, behind it, or alone.
func TestAPartOfAnother(t *testing.T) {
	for way := range 4 {
		k := start(t)
		x, y, c := k.id(8, 0), k.id(8, 1), k.id(1, 2)
		part := k.two(api.Mul, k.two(api.Add, x, k.num(8, 3)), y)
		whole := k.ite(c, k.two(api.Sub, part, x), k.not(part))
		for _, z := range [][]term.T{{part, whole}, {whole, part, y, x}, {x, part, c, whole, part}, {part}}[way] {
			k.ask(z)
		}
		k.stands(some(rand.New(rand.NewSource(7)), 3, 200))
	}
}

// TestTermsMadeLater: the arena goes on.
func TestTermsMadeLater(t *testing.T) {
	k := start(t)
	k.refused(1, api.ErrArg)
	x := k.id(8, 5)
	k.ask(x)
	k.refused(x+1, api.ErrArg)
	y := k.two(api.Mul, x, x)
	k.ask(y)
	z := k.id(16, 3)
	k.ask(k.two(api.Add, k.ext(16, y), z))
	k.stands(some(rand.New(rand.NewSource(8)), 6, 200))
}

// TestTheArenaStays: no question adds terms.
func TestTheArenaStays(t *testing.T) {
	k := start(t)
	l := k.growth(rand.New(rand.NewSource(9)), 150)
	n := k.Len()
	for _, x := range l {
		k.ask(x)
		k.b.Bit(0, 0)
		k.b.Formula()
	}
	k.refused(0, api.ErrArg)
	if k.Len() != n {
		t.Errorf("%d terms more", k.Len()-n)
	}
}

// TestTwoOfOneArena: what one is asked the other does not tell; asked the same they tell the same.
func TestTwoOfOneArena(t *testing.T) {
	k := start(t)
	l := k.growth(rand.New(rand.NewSource(10)), 120)
	other := New(k.Arena)
	for _, x := range l {
		k.ask(x)
	}
	if n, f := other.Formula(); n != 0 || len(f) != 0 {
		t.Errorf("of another there are %d variables, %d clauses", n, len(f))
	}
	if _, ok := other.Bit(0, 0); ok {
		t.Error("another tells a bit that it was not asked for")
	}
	for i, x := range l {
		if m, e := other.Bits(x); e != api.OK || !slices.Equal(m, k.told[i].l) {
			t.Errorf("Bits(%d) = %v, and of another %v, %d", x, k.told[i].l, m, int(e))
		}
	}
	n, f := k.b.Formula()
	if m, g := other.Formula(); m != n || !slices.EqualFunc(f, g, slices.Equal) {
		t.Errorf("%d variables, %d clauses, and of another %d, %d", n, len(f), m, len(g))
	}
}

// TestADeepTerm: as deep as there may be one.
func TestADeepTerm(t *testing.T) {
	k := start(t)
	c, x, y := k.id(1, 0), k.id(1, 1), k.id(1, 2)
	z := c
	for k.Len() < api.MaxTerms {
		switch k.Len() % 3 {
		case 0:
			z = k.two(api.Xor, z, x)
		case 1:
			z = k.not(z)
		default:
			z = k.two(api.Xor, z, y)
		}
	}
	k.ask(z)
	k.stands(each(1, 1, 1))
}
