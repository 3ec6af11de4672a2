package blast

import (
	"math/rand"
	"slices"
	"testing"

	"crossroads/api"
	"crossroads/term"
)

// fill asks for terms over that many Vars of 16 bits until just so many variables are left: for all Ands and Ors of pairs of MaxVars it takes just MaxLits.
func (k *asker) fill(vars, left int) {
	k.Helper()
	for id := range vars {
		k.ask(k.id(16, id))
	}
	for _, op := range []int{api.And, api.Or, api.Xor} {
		for i := range vars {
			for j := range i {
				x, y := k.id(16, i), k.id(16, j)
				switch n := len(k.b.net.gates); {
				case n+16 <= api.MaxLits-left:
					k.ask(k.two(op, x, y))
				case n < api.MaxLits-left:
					k.ask(k.two(op, k.cut(1, x), k.cut(1, y)))
				}
			}
		}
	}
	if n, _ := k.b.Formula(); n != api.MaxLits-left {
		k.Fatalf("there are %d variables, want %d less than MaxLits", n, left)
	}
}

// snap is all that Formula and Bit tell.
type snap struct {
	n    int
	f    [][]int
	bits [api.MaxVars][16]int
}

func (k *asker) snap() (s snap) {
	s.n, s.f = k.b.Formula()
	for id := range s.bits {
		for i := range s.bits[id] {
			s.bits[id][i], _ = k.b.Bit(id, i)
		}
	}
	return s
}

func (s snap) same(o snap) bool {
	return s.n == o.n && s.bits == o.bits && slices.EqualFunc(s.f, o.f, slices.Equal)
}

// TestJustMaxLits: all is well, and what takes no more is answered.
func TestJustMaxLits(t *testing.T) {
	k := start(t)
	k.fill(api.MaxVars, 0)
	k.stands(some(rand.New(rand.NewSource(12)), api.MaxVars, 64))
	before := k.snap()
	x, y := k.id(16, 0), k.id(16, 1)
	for _, z := range []term.T{
		x, k.two(api.And, y, x), k.not(k.two(api.Or, x, y)), k.two(api.Or, k.not(y), k.not(x)), k.cut(8, k.two(api.And, x, y)), k.two(api.And, k.cut(1, x), k.cut(1, y)), k.not(k.not(x)),
		k.two(api.Mul, k.cut(1, x), k.cut(1, y)), k.two(api.Xor, x, k.num(16, 0xffff)),
	} {
		k.ask(z)
	}
	if !before.same(k.snap()) {
		t.Error("what takes no more variables changes the formula")
	}
	for _, z := range []term.T{k.num(1, 0), k.num(16, 7), k.two(api.Xor, x, y), k.two(api.Lt, x, y), k.two(api.Xor, k.cut(1, x), k.cut(1, y)), k.ext(16, k.cut(8, x)), k.two(api.Mod, x, y)} {
		k.refused(z, api.ErrFull)
		k.refused(z, api.ErrFull)
		if !before.same(k.snap()) {
			t.Errorf("what is refused, term %d, changes the formula, or what Bit tells", z)
		}
	}
	k.told = k.told[len(k.told)-20:]
	for id := range api.MaxVars {
		k.ask(k.id(16, id))
	}
	k.stands(some(rand.New(rand.NewSource(13)), api.MaxVars, 64))
}

// TestLittleRoom: as much as it takes is enough, one less is not; what was refused leaves no trace.
func TestLittleRoom(t *testing.T) {
	for _, left := range []int{1, 2, 15, 16, 17} {
		k := start(t)
		k.fill(api.MaxVars, left)
		x, y, m := k.id(16, 4), k.id(16, 5), k.snap()
		bit := k.two(api.And, k.cut(1, k.two(api.Xor, x, y)), k.cut(1, k.id(16, 6))) // 17: all bits of a part are there
		for _, c := range []struct {
			x     term.T
			takes int
		}{{k.two(api.Xor, x, y), 16}, {bit, 17}, {k.two(api.Eq, x, y), 17}, {k.two(api.Add, x, y), 30}, {k.two(api.Mul, x, y), 300}} {
			if c.takes > left {
				k.refused(c.x, api.ErrFull)
				if !m.same(k.snap()) {
					t.Errorf("%d left: what is refused, term %d, changes the formula, or what Bit tells", left, c.x)
				}
			}
		}
		other := &asker{T: t, Arena: k.Arena, b: New(k.Arena)}
		other.fill(api.MaxVars, left)
		last := []term.T{k.two(api.Xor, k.cut(1, x), k.cut(1, y)), k.num(8, 77), k.two(api.Xor, x, y), bit}
		for i, takes := range []int{1, 2, 17, 18} { // that and those ahead
			if takes > left {
				k.refused(last[i], api.ErrFull)
				continue
			}
			l := k.ask(last[i])
			if m, e := other.b.Bits(last[i]); e != api.OK || !slices.Equal(l, m) {
				t.Errorf("%d left: Bits(%d) = %v; where nothing was refused ahead %v, %d", left, last[i], l, m, int(e))
			}
		}
		if !k.snap().same(other.snap()) {
			t.Errorf("%d left: what was refused ahead shows in the formula, or in what Bit tells", left)
		}
		k.stands(some(rand.New(rand.NewSource(14)), api.MaxVars, 64))
	}
}

// TestVarsOfWhatIsRefused: Bit does not tell of them, till they stand in something that is not.
func TestVarsOfWhatIsRefused(t *testing.T) {
	k := start(t)
	k.fill(60, 10)
	k.bits()
	m := k.snap()
	x, y, old, small, bit := k.id(16, 60), k.id(16, 61), k.id(16, 3), k.id(8, 62), k.id(1, 63)
	for _, z := range []term.T{
		x, k.two(api.Add, x, y), k.two(api.Mul, old, y), k.two(api.And, k.cut(1, x), k.cut(1, old)), k.ite(bit, x, old), k.two(api.Add, k.ext(16, small), old), k.two(api.Mul, small, small),
	} {
		k.refused(z, api.ErrFull)
		k.bits()
		if !m.same(k.snap()) {
			t.Errorf("what is refused, term %d, changes the formula, or what Bit tells", z)
		}
	}
	k.ask(small)
	k.ask(bit)
	k.refused(k.two(api.Add, k.ext(8, bit), small), api.ErrFull)
	k.ask(k.two(api.Xor, bit, k.cut(1, small)))
	k.refused(x, api.ErrFull)
	k.refused(k.not(y), api.ErrFull)
	if n, _ := k.b.Formula(); n != api.MaxLits {
		t.Errorf("there are %d variables, want MaxLits", n)
	}
	k.stands(some(rand.New(rand.NewSource(15)), api.MaxVars, 64))
}

// TestManyRefused: a term of as many nodes as there may be, which takes far more variables, again and again.
func TestManyRefused(t *testing.T) {
	k := start(t)
	x, y := k.id(16, 0), k.id(16, 1)
	z, first := x, k.two(api.Mul, x, y)
	for k.Len() < api.MaxTerms-1 {
		z = k.two(api.Mul, k.two(api.Add, z, y), x)
	}
	for range 5 {
		k.refused(z, api.ErrFull)
		k.bits()
		if n, f := k.b.Formula(); n != 0 || len(f) != 0 {
			t.Errorf("after an answer with an error there are %d variables, %d clauses", n, len(f))
		}
	}
	k.ask(first)
	for range 5 {
		k.refused(z, api.ErrFull)
	}
	k.stands(twos(rand.New(rand.NewSource(16)), 10))
}
