package term

import (
	"math"
	"math/rand"
	"slices"
	"testing"

	"crossroads/api"
	"crossroads/wide"
)

// widths are those that may be.
var widths = []int{1, 8, 16}

// wrongWidths may not be; some would be 1, 8 or 16 if their high bits or their sign were lost.
var wrongWidths = []int{
	math.MinInt, math.MinInt + 8, -256 + 8, -16, -8, -1, 0, 2, 7, 9, 15, 17, 24, 32, 64, 256 + 1, 1<<16 + 8, 1<<32 + 16, math.MaxInt,
}

// pairs are the operators of Two.
var pairs = []int{
	api.And, api.Or, api.Xor, api.Add, api.Sub, api.Mul, api.Div, api.Mod, api.Shl, api.Shr, api.Eq, api.Lt,
}

// noPairs are none of those; some would be one if their high bits or their sign were lost.
var noPairs = []int{
	math.MinInt, math.MinInt + api.Add, -api.Add, -1, 0, api.Const, api.Var, api.Not, api.Ite, api.Ext, api.Cut, api.Cut + 1,
	256 + api.Add, 1<<16 + api.Eq, 1<<32 + api.And, math.MaxInt,
}

// wrongIds are no ids; some would be one if their high bits or their sign were lost.
var wrongIds = []int{
	math.MinInt, math.MinInt + 1, -api.MaxVars, -1, api.MaxVars, api.MaxVars + 1, 256, 1 << 16, 1 << 32, 1<<32 + 5, math.MaxInt,
}

// none are numbers that are no terms of a.
func none(a *Arena) []T {
	n := T(a.Len())
	return []T{math.MinInt, math.MinInt + 1, -n - 1, -n, -1, 0, n + 1, n + 2, 1<<32 + 1, math.MaxInt}
}

// maker makes terms that have to be.
type maker struct {
	*testing.T
	*Arena
}

func start(t *testing.T) maker { return maker{t, New()} }

// fine is x, if e says that all is well with it.
func (m maker) fine(x T, e api.Errno) T {
	m.Helper()
	if e != api.OK || x < 1 || int(x) > m.Len() {
		m.Fatalf("answer %d, %d; there are %d terms", x, int(e), m.Len())
	}
	return x
}

func (m maker) num(w int, v uint16) T { m.Helper(); return m.fine(m.Const(w, v)) }
func (m maker) id(w, id int) T        { m.Helper(); return m.fine(m.Var(w, id)) }
func (m maker) two(op int, x, y T) T  { m.Helper(); return m.fine(m.Two(op, x, y)) }
func (m maker) not(x T) T             { m.Helper(); return m.fine(m.Not(x)) }
func (m maker) ite(c, x, y T) T       { m.Helper(); return m.fine(m.Ite(c, x, y)) }
func (m maker) ext(w int, x T) T      { m.Helper(); return m.fine(m.Ext(w, x)) }
func (m maker) cut(w int, x T) T      { m.Helper(); return m.fine(m.Cut(w, x)) }

// worth fails the test where x is not w wide, or not worth v under env.
func (m maker) worth(x T, w int, env []uint16, v uint16) {
	m.Helper()
	if m.Width(x) != w {
		m.Errorf("term %d is %d wide, want %d", x, m.Width(x), w)
	}
	if r := m.Eval(x, env); r != v {
		m.Errorf("term %d is worth %d under %v, want %d", x, r, env, v)
	}
}

// known fails the test where x is not the Const of width w and number v.
func (m maker) known(x T, w int, v uint16) {
	m.Helper()
	if r, ok := m.Known(x); !ok || r != v || m.Width(x) != w {
		m.Errorf("term %d: Known %d, %v, width %d; want %d, true, width %d", x, r, ok, m.Width(x), v, w)
	}
	n, ok := m.Node(x)
	if want := (Node{Op: api.Const, W: w, Val: v}); !ok || n != want {
		m.Errorf("term %d: Node %+v, %v; want %+v", x, n, ok, want)
	}
}

// refused fails the test where an answer is not none and e, or has changed how many nodes there are.
func (m maker) refused(what string, f func() (T, api.Errno), e api.Errno) {
	m.Helper()
	n := m.Len()
	x, g := f()
	if x != 0 || g != e {
		m.Errorf("%s = %d, %d; want 0, %d", what, x, int(g), int(e))
	}
	if m.Len() != n {
		m.Errorf("%s: refused, and there are %d terms, not %d", what, m.Len(), n)
	}
}

// numbers are some about the ends of each width.
func numbers() []uint16 {
	return []uint16{0, 1, 2, 3, 7, 8, 9, 15, 16, 17, 100, 127, 128, 200, 255, 256, 257, 300, 0x7fff, 0x8000, 0xff00, 0xfffe, 0xffff}
}

func truth(b bool) uint16 {
	if b {
		return 1
	}
	return 0
}

// P2.1

func TestNewIsEmpty(t *testing.T) {
	a := New()
	if a == nil || a.Len() != 0 {
		t.Fatalf("a new arena: %v, with %d terms", a, a.Len())
	}
	b := New()
	if a.Const(8, 1); b.Len() != 0 {
		t.Errorf("what one arena is given stands in another")
	}
}

func TestTermsAreNumberedFromOne(t *testing.T) {
	m := start(t)
	seen := map[T]bool{}
	for i := range 300 {
		x := m.num(16, uint16(i))
		if seen[x] {
			t.Errorf("Const(16, %d) = %d, which is another one", i, x)
		}
		seen[x] = true
		if m.Len() != i+1 {
			t.Errorf("Len = %d after %d Consts", m.Len(), i+1)
		}
	}
	for x := T(1); int(x) <= m.Len(); x++ {
		if _, ok := m.Node(x); !ok || m.Width(x) != 16 {
			t.Errorf("term %d of %d is none", x, m.Len())
		}
	}
}

func TestConst(t *testing.T) {
	m := start(t)
	for _, w := range widths {
		for _, v := range numbers() {
			x := m.num(w, v)
			m.known(x, w, v&wide.Mask(w))
			m.worth(x, w, []uint16{9, 9}, v&wide.Mask(w))
		}
	}
	for _, w := range wrongWidths {
		m.refused("Const", func() (T, api.Errno) { return m.Const(w, 1) }, api.ErrWidth)
	}
}

func TestVar(t *testing.T) {
	m := start(t)
	for id := range api.MaxVars {
		w := widths[id%3]
		x := m.id(w, id)
		if n, ok := m.Node(x); !ok || n != (Node{Op: api.Var, W: w, Val: uint16(id)}) {
			t.Errorf("Var(%d, %d): Node %+v, %v", w, id, n, ok)
		}
		if v, ok := m.Known(x); ok || v != 0 {
			t.Errorf("Var(%d, %d): Known %d, %v", w, id, v, ok)
		}
		if l := m.Vars(x); !slices.Equal(l, []int{id}) {
			t.Errorf("Var(%d, %d): Vars %v", w, id, l)
		}
	}
	if m.Len() != api.MaxVars {
		t.Errorf("%d Vars, %d nodes", api.MaxVars, m.Len())
	}
}

func TestVarRefuses(t *testing.T) {
	m := start(t)
	for _, w := range widths {
		for _, id := range wrongIds {
			m.refused("Var", func() (T, api.Errno) { return m.Var(w, id) }, api.ErrArg)
		}
	}
	for _, w := range wrongWidths { // the width is named first
		for _, id := range append(wrongIds, 0, 5, api.MaxVars-1) {
			m.refused("Var", func() (T, api.Errno) { return m.Var(w, id) }, api.ErrWidth)
		}
	}
	// A Var that was refused is not there: its width is still open.
	m.id(16, 0)
	m.id(1, 5)
}

func TestVarOfAnotherWidth(t *testing.T) {
	m := start(t)
	for id, w := range []int{1, 8, 16} {
		x := m.id(w, id)
		for _, o := range widths {
			if o != w {
				m.refused("Var of another width", func() (T, api.Errno) { return m.Var(o, id) }, api.ErrArg)
			}
		}
		for _, o := range wrongWidths {
			m.refused("Var of no width", func() (T, api.Errno) { return m.Var(o, id) }, api.ErrWidth)
		}
		if y := m.id(w, id); y != x {
			t.Errorf("Var(%d, %d) = %d, and once more %d", w, id, x, y)
		}
	}
	// Another arena has its own Vars.
	n := start(t)
	n.id(16, 0)
}

func TestTwo(t *testing.T) {
	for _, w := range widths {
		m := start(t)
		x, y := m.id(w, 3), m.id(w, 4)
		for _, op := range pairs {
			r, q := m.two(op, x, y), m.two(op, x, x)
			for _, u := range numbers() {
				for _, v := range numbers() {
					env := []uint16{1, 2, 0, u, v}
					want, _ := wide.Do(op, w, u, v)
					m.worth(r, wide.Out(op, w), env, want)
					want, _ = wide.Do(op, w, u, u)
					m.worth(q, wide.Out(op, w), env, want)
				}
			}
		}
	}
}

func TestTwoRefuses(t *testing.T) {
	m := start(t)
	one, eight, more := m.id(1, 0), m.id(8, 1), m.num(16, 7)
	for _, op := range pairs {
		for _, p := range [][2]T{{one, eight}, {eight, one}, {eight, more}, {more, eight}, {one, more}} {
			m.refused("Two of unlike widths", func() (T, api.Errno) { return m.Two(op, p[0], p[1]) }, api.ErrWidth)
		}
		for _, x := range none(m.Arena) {
			m.refused("Two of none", func() (T, api.Errno) { return m.Two(op, x, eight) }, api.ErrArg)
			m.refused("Two of none", func() (T, api.Errno) { return m.Two(op, eight, x) }, api.ErrArg)
			m.refused("Two of none", func() (T, api.Errno) { return m.Two(op, x, x) }, api.ErrArg)
		}
	}
	for _, op := range noPairs { // the operator is named first
		m.refused("Two by none", func() (T, api.Errno) { return m.Two(op, eight, eight) }, api.ErrOp)
		m.refused("Two by none", func() (T, api.Errno) { return m.Two(op, one, eight) }, api.ErrOp)
		m.refused("Two by none", func() (T, api.Errno) { return m.Two(op, 0, eight) }, api.ErrOp)
		m.refused("Two by none", func() (T, api.Errno) { return m.Two(op, more, more) }, api.ErrOp)
	}
}

func TestNot(t *testing.T) {
	m := start(t)
	for id, w := range widths {
		x := m.id(w, id)
		r, q := m.not(x), m.not(m.not(x))
		for _, u := range numbers() {
			env := []uint16{u, u, u}
			m.worth(r, w, env, ^u&wide.Mask(w))
			m.worth(q, w, env, u&wide.Mask(w))
		}
	}
	for _, x := range none(m.Arena) {
		m.refused("Not of none", func() (T, api.Errno) { return m.Not(x) }, api.ErrArg)
	}
}

func TestIte(t *testing.T) {
	for _, w := range widths {
		m := start(t)
		c, x, y := m.id(1, 2), m.id(w, 1), m.id(w, 0)
		r, same := m.ite(c, x, y), m.ite(c, x, x)
		yes, no := m.ite(m.num(1, 1), x, y), m.ite(m.num(1, 0), x, y)
		for _, u := range numbers() {
			for _, v := range numbers() {
				p, q := u&wide.Mask(w), v&wide.Mask(w)
				m.worth(r, w, []uint16{v, u, 1}, p)
				m.worth(r, w, []uint16{v, u, 0}, q)
				m.worth(r, w, []uint16{v, u}, q)
				m.worth(r, w, []uint16{v, u, 0xffff}, p)
				m.worth(r, w, []uint16{v, u, 0xfffe}, q)
				m.worth(same, w, []uint16{v, u, truth(u < v)}, p)
				m.worth(yes, w, []uint16{v, u}, p)
				m.worth(no, w, []uint16{v, u}, q)
			}
		}
	}
}

func TestIteRefuses(t *testing.T) {
	m := start(t)
	one, eight, more := m.id(1, 0), m.id(8, 1), m.id(16, 2)
	yes, number := m.num(1, 1), m.num(8, 1)
	for _, p := range [][3]T{
		{one, eight, more}, {one, more, eight}, {one, one, eight}, {one, eight, one}, {yes, eight, more}, {yes, number, more},
		{eight, eight, eight}, {more, one, one}, {number, eight, eight}, {eight, eight, more},
	} {
		m.refused("Ite of unlike widths", func() (T, api.Errno) { return m.Ite(p[0], p[1], p[2]) }, api.ErrWidth)
	}
	for _, x := range none(m.Arena) { // that one is none is named first
		m.refused("Ite of none", func() (T, api.Errno) { return m.Ite(x, eight, eight) }, api.ErrArg)
		m.refused("Ite of none", func() (T, api.Errno) { return m.Ite(one, x, eight) }, api.ErrArg)
		m.refused("Ite of none", func() (T, api.Errno) { return m.Ite(one, eight, x) }, api.ErrArg)
		m.refused("Ite of none", func() (T, api.Errno) { return m.Ite(yes, x, eight) }, api.ErrArg)
		m.refused("Ite of none", func() (T, api.Errno) { return m.Ite(yes, eight, x) }, api.ErrArg)
		m.refused("Ite of none", func() (T, api.Errno) { return m.Ite(eight, x, eight) }, api.ErrArg)
		m.refused("Ite of none", func() (T, api.Errno) { return m.Ite(x, eight, more) }, api.ErrArg)
	}
}

func TestExtAndCut(t *testing.T) {
	m := start(t)
	for id, w := range widths {
		x := m.id(w, id)
		for _, o := range widths {
			if o >= w {
				r := m.ext(o, x)
				for _, u := range numbers() {
					m.worth(r, o, []uint16{u, u, u}, u&wide.Mask(w))
				}
			}
			if o <= w {
				r := m.cut(o, x)
				for _, u := range numbers() {
					m.worth(r, o, []uint16{u, u, u}, u&wide.Mask(o))
				}
			}
		}
	}
	// What was cut does not come back.
	m.worth(m.ext(16, m.cut(1, m.id(16, 2))), 16, []uint16{0, 0, 0xffff}, 1)
	m.worth(m.ext(16, m.cut(8, m.id(16, 2))), 16, []uint16{0, 0, 0xabcd}, 0xcd)
	m.worth(m.cut(1, m.ext(16, m.id(8, 1))), 1, []uint16{0, 0xff}, 1)
}

func TestExtAndCutRefuse(t *testing.T) {
	m := start(t)
	terms := map[int]T{1: m.id(1, 0), 8: m.id(8, 1), 16: m.num(16, 5)}
	for w, x := range terms {
		for _, o := range widths {
			if o < w {
				m.refused("Ext to a lesser width", func() (T, api.Errno) { return m.Ext(o, x) }, api.ErrWidth)
			}
			if o > w {
				m.refused("Cut to a greater width", func() (T, api.Errno) { return m.Cut(o, x) }, api.ErrWidth)
			}
		}
		for _, o := range wrongWidths {
			m.refused("Ext to no width", func() (T, api.Errno) { return m.Ext(o, x) }, api.ErrWidth)
			m.refused("Cut to no width", func() (T, api.Errno) { return m.Cut(o, x) }, api.ErrWidth)
		}
	}
	for _, x := range none(m.Arena) { // that it is none is named first
		for _, o := range append(wrongWidths, 1, 8, 16) {
			m.refused("Ext of none", func() (T, api.Errno) { return m.Ext(o, x) }, api.ErrArg)
			m.refused("Cut of none", func() (T, api.Errno) { return m.Cut(o, x) }, api.ErrArg)
		}
	}
}

func TestWidthOfNone(t *testing.T) {
	m := start(t)
	m.id(8, 0)
	for _, x := range none(m.Arena) {
		if w := m.Width(x); w != 0 {
			t.Errorf("Width(%d) = %d, of none", x, w)
		}
	}
}

// filled is an arena with the Vars 0, of width 1, and 1, of width 8, and as many Consts of width 16 as there is room for, from 0 on.
func filled(t *testing.T) (m maker, one, eight T) {
	m = start(t)
	one, eight = m.id(1, 0), m.id(8, 1)
	for v := 0; m.Len() < api.MaxTerms; v++ {
		m.num(16, uint16(v))
	}
	return m, one, eight
}

func TestAsManyNodesAsThereMayBe(t *testing.T) {
	m := start(t)
	for v := range api.MaxTerms {
		m.known(m.num(16, uint16(v)), 16, uint16(v))
	}
	if m.Len() != api.MaxTerms {
		t.Fatalf("%d Consts, %d nodes", api.MaxTerms, m.Len())
	}
	for v := range api.MaxTerms { // what is there is there
		m.known(m.num(16, uint16(v)), 16, uint16(v))
	}
	x, y := m.num(16, 700), m.num(16, 60000)
	m.known(m.two(api.Mul, x, y), 16, 56960)
	m.known(m.not(x), 16, 0xffff-700)
	m.refused("Two", func() (T, api.Errno) { return m.Two(api.Lt, x, y) }, api.ErrFull)
	m.refused("Cut", func() (T, api.Errno) { return m.Cut(8, x) }, api.ErrFull)
	if m.Len() != api.MaxTerms {
		t.Errorf("there are %d nodes", m.Len())
	}
}

func TestOneNodeMore(t *testing.T) {
	m, one, eight := filled(t)
	for what, f := range map[string]func() (T, api.Errno){
		"Const": func() (T, api.Errno) { return m.Const(8, 3) },
		"Var":   func() (T, api.Errno) { return m.Var(16, 2) },
		"Two":   func() (T, api.Errno) { return m.Two(api.Add, eight, eight) },
		"Not":   func() (T, api.Errno) { return m.Not(eight) },
		"Ite":   func() (T, api.Errno) { return m.Ite(one, m.num(16, 1), m.num(16, 2)) },
		"Ext":   func() (T, api.Errno) { return m.Ext(16, eight) },
		"Cut":   func() (T, api.Errno) { return m.Cut(1, eight) },
		"last":  func() (T, api.Errno) { return m.Const(16, 0xffff) },
	} {
		m.refused(what, f, api.ErrFull)
		m.refused(what+" once more", f, api.ErrFull)
	}
	// The errors named ahead are told ahead, and what is there is answered.
	m.refused("Const", func() (T, api.Errno) { return m.Const(7, 3) }, api.ErrWidth)
	m.refused("Var", func() (T, api.Errno) { return m.Var(8, 0) }, api.ErrArg)
	m.refused("Two", func() (T, api.Errno) { return m.Two(api.Add, one, eight) }, api.ErrWidth)
	m.refused("Not", func() (T, api.Errno) { return m.Not(0) }, api.ErrArg)
	if m.id(1, 0) != one || m.id(8, 1) != eight {
		t.Errorf("Vars that are there are others in a full arena")
	}
}

// P2.2

func TestTheSameCallAgain(t *testing.T) {
	m := start(t)
	calls := func() []T {
		b, c, x, y, k := m.id(1, 0), m.id(1, 1), m.id(8, 2), m.id(8, 3), m.num(8, 77)
		l := []T{b, c, x, y, k, m.not(x), m.not(b), m.not(k), m.ite(b, x, y), m.ite(b, y, x), m.ite(c, x, k), m.ite(m.num(1, 1), x, y)}
		for _, op := range pairs {
			l = append(l, m.two(op, x, y), m.two(op, y, x), m.two(op, x, x), m.two(op, x, k), m.two(op, k, x), m.two(op, k, k))
		}
		for _, w := range widths {
			if w >= 8 {
				l = append(l, m.ext(w, x), m.ext(w, k))
			}
			if w <= 8 {
				l = append(l, m.cut(w, x), m.cut(w, k))
			}
		}
		return l
	}
	first := calls()
	n := m.Len()
	nodes := make([]Node, n)
	for i := range nodes {
		nodes[i], _ = m.Node(T(i + 1))
	}
	if again := calls(); !slices.Equal(first, again) {
		t.Errorf("the same calls: %v, then %v", first, again)
	}
	if m.Len() != n {
		t.Errorf("the same calls again make %d nodes more", m.Len()-n)
	}
	for i, want := range nodes {
		if r, _ := m.Node(T(i + 1)); r != want {
			t.Errorf("Node(%d) was %+v, and is %+v", i+1, want, r)
		}
	}
}

// TestArenasAreAlike: which numbers terms have hangs on the calls alone (R5).
func TestArenasAreAlike(t *testing.T) {
	a, b := growth(rand.New(rand.NewSource(7)), start(t), 400), growth(rand.New(rand.NewSource(7)), start(t), 400)
	if a.Len() != b.Len() {
		t.Fatalf("the same calls make %d and %d nodes", a.Len(), b.Len())
	}
	for i, x := range a.terms {
		if x != b.terms[i] {
			t.Errorf("the same call answers %d and %d", x, b.terms[i])
		}
	}
}

func TestKnownOfNone(t *testing.T) {
	m := start(t)
	x := m.id(8, 0)
	made := []T{x, m.not(x), m.two(api.Add, x, m.num(8, 1))}
	for _, y := range append(made, none(m.Arena)...) {
		if v, ok := m.Known(y); ok || v != 0 {
			t.Errorf("Known(%d) = %d, %v", y, v, ok)
		}
	}
}

func TestOfConstsAlone(t *testing.T) {
	m := start(t)
	for _, w := range widths {
		for _, u := range numbers() {
			x := m.num(w, u)
			m.known(m.not(x), w, ^u&wide.Mask(w))
			for _, o := range widths {
				if o >= w {
					m.known(m.ext(o, x), o, u&wide.Mask(w))
				}
				if o <= w {
					m.known(m.cut(o, x), o, u&wide.Mask(o))
				}
			}
			for _, v := range numbers() {
				y := m.num(w, v)
				m.known(m.ite(m.num(1, 1), x, y), w, u&wide.Mask(w))
				m.known(m.ite(m.num(1, 0), x, y), w, v&wide.Mask(w))
				for _, op := range pairs {
					want, _ := wide.Do(op, w, u, v)
					m.known(m.two(op, x, y), wide.Out(op, w), want)
				}
			}
		}
	}
	m.known(m.two(api.Add, m.num(8, 200), m.num(8, 100)), 8, 44)
	// And of what was made of Consts alone.
	sum := m.two(api.Add, m.ext(16, m.num(8, 200)), m.ext(16, m.num(8, 100)))
	m.known(m.ite(m.two(api.Lt, sum, m.num(16, 301)), m.cut(8, sum), m.not(m.num(8, 0))), 8, 44)
}

func TestConstsAreOne(t *testing.T) {
	m := start(t)
	for _, w := range widths {
		for _, v := range numbers() {
			x := m.num(w, v)
			for _, y := range []T{
				m.num(w, v), m.num(w, v&wide.Mask(w)), m.num(w, v|^wide.Mask(w)), m.not(m.not(x)), m.two(api.Xor, x, m.num(w, 0)),
				m.ite(m.num(1, 1), x, m.num(w, 0)), m.ext(w, x), m.cut(w, x), m.cut(w, m.ext(16, x)),
			} {
				if y != x {
					t.Errorf("the Const of width %d and number %d is %d, and %d", w, v, x, y)
				}
			}
		}
	}
	if x, y := m.num(8, 1), m.num(16, 1); x == y {
		t.Errorf("Consts of the widths 8 and 16 are one")
	}
}

func TestNodeOfNone(t *testing.T) {
	m := start(t)
	m.not(m.id(8, 0))
	for _, x := range none(m.Arena) {
		if n, ok := m.Node(x); ok || n != (Node{}) {
			t.Errorf("Node(%d) = %+v, %v; it is none", x, n, ok)
		}
	}
}

// TestNodeTellsHowATermIsMade: of operators that can't be seen as anything else.
func TestNodeTellsHowATermIsMade(t *testing.T) {
	m := start(t)
	c, x, y := m.id(1, 0), m.id(8, 1), m.id(8, 2)
	wants := map[T]Node{
		m.not(x):       {Op: api.Not, W: 8, A: x},
		m.ite(c, x, y): {Op: api.Ite, W: 8, A: c, B: x, C: y},
		m.ext(16, x):   {Op: api.Ext, W: 16, A: x},
		m.cut(1, x):    {Op: api.Cut, W: 1, A: x},
	}
	for _, op := range pairs {
		wants[m.two(op, x, y)] = Node{Op: op, W: wide.Out(op, 8), A: x, B: y}
	}
	for z, want := range wants {
		if n, ok := m.Node(z); !ok || n != want {
			t.Errorf("Node(%d) = %+v, %v; want %+v", z, n, ok, want)
		}
	}
}

// grown are terms, and what each is worth, told without the arena.
type grown struct {
	maker
	terms []T
	wide  []int
	model []func(env []uint16) uint16
	ids   []map[int]bool // what each was asked for with
}

// keep adds a term and what it is worth.
func (g *grown) keep(x T, w int, f func(env []uint16) uint16, of ...int) {
	ids := map[int]bool{}
	for _, i := range of {
		for id := range g.ids[i] {
			ids[id] = true
		}
	}
	g.terms, g.wide, g.model, g.ids = append(g.terms, x), append(g.wide, w), append(g.model, f), append(g.ids, ids)
}

// leaf adds a Var or a Const.
func (g *grown) leaf(r *rand.Rand) {
	if r.Intn(3) == 0 {
		w, v := widths[r.Intn(3)], uint16(r.Intn(1<<16))
		g.keep(g.num(w, v), w, func([]uint16) uint16 { return v & wide.Mask(w) })
		return
	}
	id := r.Intn(9)
	w := widths[id%3]
	g.keep(g.id(w, id), w, func(env []uint16) uint16 {
		if id >= len(env) {
			return 0
		}
		return env[id] & wide.Mask(w)
	})
	g.ids[len(g.ids)-1][id] = true
}

// like answers one of the terms that is w wide.
func (g *grown) like(r *rand.Rand, w int) int {
	for {
		if i := r.Intn(len(g.terms)); g.wide[i] == w {
			return i
		}
	}
}

// branch adds a term made of those that are there.
func (g *grown) branch(r *rand.Rand) {
	i := r.Intn(len(g.terms))
	w, x, f := g.wide[i], g.terms[i], g.model[i]
	j := g.like(r, w)
	y, h := g.terms[j], g.model[j]
	o := widths[r.Intn(3)]
	switch r.Intn(6) {
	case 0:
		g.keep(g.not(x), w, func(env []uint16) uint16 { return ^f(env) & wide.Mask(w) }, i)
	case 1:
		k := g.like(r, 1)
		c := g.model[k]
		g.keep(g.ite(g.terms[k], x, y), w, func(env []uint16) uint16 {
			if c(env) == 1 {
				return f(env)
			}
			return h(env)
		}, i, j, k)
	case 2:
		z := T(0)
		if o >= w {
			z = g.ext(o, x)
		} else {
			z = g.cut(o, x)
		}
		g.keep(z, o, func(env []uint16) uint16 { return f(env) & wide.Mask(o) }, i)
	default:
		op := pairs[r.Intn(len(pairs))]
		g.keep(g.two(op, x, y), wide.Out(op, w), func(env []uint16) uint16 {
			v, _ := wide.Do(op, w, f(env), h(env))
			return v
		}, i, j)
	}
}

// growth makes n terms of all kinds.
func growth(r *rand.Rand, m maker, n int) *grown {
	g := &grown{maker: m}
	for _, w := range widths {
		g.keep(m.num(w, 1), w, func([]uint16) uint16 { return 1 })
	}
	for len(g.terms) < n {
		if r.Intn(4) == 0 {
			g.leaf(r)
		} else {
			g.branch(r)
		}
	}
	return g
}

// TestNodesAreMadeOfEarlierOnes: each node has its parts below it, is well in its widths, and stands but once.
func TestNodesAreMadeOfEarlierOnes(t *testing.T) {
	for seed := range int64(30) {
		g := growth(rand.New(rand.NewSource(seed)), start(t), 200)
		seen := map[Node]bool{}
		for x := T(1); int(x) <= g.Len(); x++ {
			n, ok := g.Node(x)
			if !ok || n.W != g.Width(x) || seen[n] || !wellMade(g.Arena, n, x) {
				t.Fatalf("seed %d: Node(%d) = %+v, %v", seed, x, n, ok)
			}
			seen[n] = true
		}
	}
}

// wellMade tells whether n may be the node of x.
func wellMade(a *Arena, n Node, x T) bool {
	parts, alone := []T{n.A, n.B, n.C}, true
	many := map[int]int{api.Const: 0, api.Var: 0, api.Not: 1, api.Ext: 1, api.Cut: 1, api.Ite: 3}
	k, ok := many[n.Op]
	if !ok {
		k = 2
	}
	for i, p := range parts {
		if (p != 0) != (i < k) || p < 0 || p >= x {
			return false
		}
		_, known := a.Known(p)
		alone = alone && (p == 0 || known)
	}
	w, v := a.Width(n.A), a.Width(n.B)
	switch n.Op {
	case api.Const:
		return n.Val&^wide.Mask(n.W) == 0
	case api.Var:
		return n.Val < api.MaxVars
	case api.Not:
		return n.W == w && !alone && n.Val == 0
	case api.Ext:
		return n.W >= w && !alone && n.Val == 0
	case api.Cut:
		return n.W <= w && !alone && n.Val == 0
	case api.Ite:
		return w == 1 && n.W == v && n.W == a.Width(n.C) && !alone && n.Val == 0
	}
	return slices.Contains(pairs, n.Op) && w == v && n.W == wide.Out(n.Op, w) && !alone && n.Val == 0
}

// P2.3

// TestEvalAgainstAModel: of random terms, under assignments of all lengths.
func TestEvalAgainstAModel(t *testing.T) {
	for seed := range int64(60) {
		r := rand.New(rand.NewSource(seed))
		g := growth(r, start(t), 60)
		for range 20 {
			env := make([]uint16, r.Intn(12))
			for i := range env {
				env[i] = uint16(r.Intn(1 << 16))
				if r.Intn(3) == 0 {
					env[i] = numbers()[r.Intn(len(numbers()))]
				}
			}
			for i, x := range g.terms {
				g.worth(x, g.wide[i], env, g.model[i](env))
			}
		}
	}
}

func TestEvalAssignments(t *testing.T) {
	m := start(t)
	b, x, y, z := m.id(1, 0), m.id(8, 1), m.id(16, 2), m.id(16, api.MaxVars-1)
	env := []uint16{0xffff, 0xffff, 0xffff}
	m.worth(b, 1, env, 1) // the lowest bits alone
	m.worth(x, 8, env, 0xff)
	m.worth(y, 16, env, 0xffff)
	m.worth(b, 1, []uint16{0xfffe}, 0)
	m.worth(x, 8, []uint16{0, 0x1200}, 0)
	m.worth(z, 16, env, 0)                           // env has it not
	m.worth(z, 16, make([]uint16, api.MaxVars-1), 0) // nor here, by one
	m.worth(z, 16, append(make([]uint16, api.MaxVars-1), 9), 9)
	m.worth(z, 16, append(make([]uint16, api.MaxVars-1), 9, 8, 7), 9)
	for _, e := range [][]uint16{nil, {}, {1, 7}} { // shorter than the ids
		m.worth(y, 16, e, 0)
		m.worth(m.two(api.Eq, y, m.num(16, 0)), 1, e, 1)
		m.worth(m.not(y), 16, e, 0xffff)
	}
	// What lies behind the length is not there, though there is room.
	m.worth(y, 16, env[:2], 0)
}

func TestEvalOfNone(t *testing.T) {
	m := start(t)
	m.num(8, 5)
	m.id(8, 0)
	for _, x := range none(m.Arena) {
		if v := m.Eval(x, []uint16{7, 7}); v != 0 {
			t.Errorf("Eval(%d) = %d, of none", x, v)
		}
	}
}

func TestEvalLeavesTheAssignment(t *testing.T) {
	m := start(t)
	x := m.two(api.Add, m.id(8, 0), m.id(8, 1))
	whole := []uint16{0x1ff, 0x2ff, 5, 6}
	env := whole[:2]
	m.worth(x, 8, env, 0xfe)
	if !slices.Equal(whole, []uint16{0x1ff, 0x2ff, 5, 6}) {
		t.Errorf("the assignment was changed: %v", whole)
	}
	env[0] = 1 // and it is not kept
	m.worth(x, 8, env, 0)
	if m.Len() != 3 {
		t.Errorf("Eval makes nodes: %d", m.Len())
	}
}

// TestEvalOfWhatStandsInMany: there are 2^n ways through such a term.
func TestEvalOfWhatStandsInMany(t *testing.T) {
	m := start(t)
	x, c := m.id(16, 0), m.id(1, 1)
	y, s := x, uint16(3)
	for i := range 5000 {
		op, k := api.Add, s+s
		if i%2 == 1 {
			op, k = api.Xor, 0
		}
		y = m.ite(c, m.two(op, y, y), m.two(op, y, y))
		y, s = m.two(api.Add, y, x), k+3
	}
	m.worth(y, 16, []uint16{3, 1}, s)
	m.worth(y, 16, []uint16{3, 0}, s)
	if l := m.Vars(y); !slices.Equal(l, []int{0, 1}) && !slices.Equal(l, []int{0}) {
		t.Errorf("Vars %v", l)
	}
}

// TestEvalOfADeepTerm: as deep as there is room for.
func TestEvalOfADeepTerm(t *testing.T) {
	m := start(t)
	x, k := m.id(16, 0), m.id(16, 1)
	y, n := x, uint16(0)
	for m.Len() < api.MaxTerms {
		y = m.two(api.Add, y, k)
		n++
	}
	m.worth(y, 16, []uint16{11, 3}, 11+3*n)
	if l := m.Vars(y); !slices.Equal(l, []int{0, 1}) {
		t.Errorf("Vars %v", l)
	}
}

func TestVars(t *testing.T) {
	m := start(t)
	c, x, y := m.id(1, 63), m.id(8, 5), m.id(8, 0)
	k, far := m.num(8, 7), m.id(16, 62)
	for _, s := range []struct {
		x    T
		want []int
	}{
		{k, nil}, {x, []int{5}}, {y, []int{0}}, {c, []int{63}},
		{m.two(api.Add, x, y), []int{0, 5}}, {m.two(api.Sub, y, x), []int{0, 5}}, {m.two(api.Lt, x, k), []int{5}}, {m.two(api.Shl, k, x), []int{5}},
		{m.not(c), []int{63}}, {m.ite(c, x, y), []int{0, 5, 63}}, {m.ite(c, k, y), []int{0, 63}}, {m.ite(c, x, k), []int{5, 63}},
		{m.ext(16, x), []int{5}}, {m.cut(8, far), []int{62}},
		{m.two(api.Xor, m.ext(16, m.two(api.Mul, x, y)), far), []int{0, 5, 62}}, {m.not(k), nil},
	} {
		if l := m.Vars(s.x); !slices.Equal(l, s.want) {
			t.Errorf("Vars(%d) = %v, want %v", s.x, l, s.want)
		}
	}
	n := start(t)
	all := n.num(16, 0)
	var want []int
	for id := api.MaxVars - 1; id >= 0; id-- {
		all = n.two(api.Add, all, n.id(16, id))
		want = append([]int{id}, want...)
		if l := n.Vars(all); !slices.Equal(l, want) {
			t.Errorf("Vars = %v, want %v", l, want)
		}
	}
	for _, x := range none(m.Arena) {
		if l := m.Vars(x); len(l) != 0 {
			t.Errorf("Vars(%d) = %v, of none", x, l)
		}
	}
}

func TestVarsAreNewMemory(t *testing.T) {
	m := start(t)
	x := m.two(api.Add, m.id(8, 3), m.id(8, 1))
	l := m.Vars(x)
	clear(l[:cap(l)])
	if l = m.Vars(x); !slices.Equal(l, []int{1, 3}) {
		t.Errorf("Vars = %v, after those that were answered were changed", l)
	}
}

// TestVarsOfRandomTerms: those that stand in the nodes, and none that was not asked for.
func TestVarsOfRandomTerms(t *testing.T) {
	for seed := range int64(40) {
		g := growth(rand.New(rand.NewSource(seed)), start(t), 150)
		for i, x := range g.terms {
			l := g.Vars(x)
			if !slices.Equal(l, standing(g.Arena, x)) {
				t.Fatalf("seed %d: Vars(%d) = %v, want %v", seed, x, l, standing(g.Arena, x))
			}
			for _, id := range l {
				if !g.ids[i][id] {
					t.Fatalf("seed %d: Vars(%d) = %v, and %d was not asked for", seed, x, l, id)
				}
			}
		}
	}
}

// standing answers the ids that stand in x, gone through by its nodes.
func standing(a *Arena, x T) []int {
	var l []int
	seen := map[T]bool{0: true}
	for work := []T{x}; len(work) > 0; {
		y := work[len(work)-1]
		work = work[:len(work)-1]
		n, _ := a.Node(y)
		if seen[y] {
			continue
		}
		seen[y] = true
		if n.Op == api.Var {
			l = append(l, int(n.Val))
		}
		work = append(work, n.A, n.B, n.C)
	}
	slices.Sort(l)
	return l
}

// Rules 1 and 7

func TestNilArena(t *testing.T) {
	var a *Arena
	for what, f := range map[string]func() (T, api.Errno){
		"Const":       func() (T, api.Errno) { return a.Const(8, 1) },
		"Const wrong": func() (T, api.Errno) { return a.Const(7, 1) },
		"Var":         func() (T, api.Errno) { return a.Var(8, 1) },
		"Var wrong":   func() (T, api.Errno) { return a.Var(7, -1) },
		"Two":         func() (T, api.Errno) { return a.Two(api.Add, 1, 1) },
		"Two wrong":   func() (T, api.Errno) { return a.Two(0, 0, 0) },
		"Not":         func() (T, api.Errno) { return a.Not(1) },
		"Ite":         func() (T, api.Errno) { return a.Ite(1, 1, 1) },
		"Ext":         func() (T, api.Errno) { return a.Ext(8, 1) },
		"Ext wrong":   func() (T, api.Errno) { return a.Ext(-7, 1) },
		"Cut":         func() (T, api.Errno) { return a.Cut(8, 1) },
		"Cut wrong":   func() (T, api.Errno) { return a.Cut(7, 1) },
	} {
		if x, e := f(); x != 0 || e != api.ErrArg {
			t.Errorf("%s of a nil arena: %d, %d", what, x, int(e))
		}
	}
	for _, x := range []T{-1, 0, 1} {
		v, known := a.Known(x)
		n, ok := a.Node(x)
		if a.Width(x) != 0 || v != 0 || known || n != (Node{}) || ok || a.Len() != 0 || a.Eval(x, []uint16{1}) != 0 || len(a.Vars(x)) != 0 {
			t.Errorf("a nil arena knows of term %d", x)
		}
	}
}

func TestZeroArena(t *testing.T) {
	m := maker{t, new(Arena)}
	m.worth(m.two(api.Add, m.id(8, 0), m.num(8, 2)), 8, []uint16{3}, 5)
}

// TestNothingPanics: whatever the arguments, each call answers, with a term or an error.
func TestNothingPanics(t *testing.T) {
	full, _, _ := filled(t)
	small := growth(rand.New(rand.NewSource(1)), start(t), 40).Arena
	numbers := append(append(append([]int{1, 3, 8, 16, 63}, wrongWidths...), noPairs...), wrongIds...)
	for _, a := range []*Arena{nil, new(Arena), small, full.Arena} {
		terms := append(none(a), 1, 2, T(a.Len()))
		check := func(x T, e api.Errno) {
			t.Helper()
			if (e == api.OK) == (x == 0) || int(x) > a.Len() {
				t.Errorf("answer %d, %d", x, int(e))
			}
		}
		for _, n := range numbers {
			check(a.Const(n, 3))
			for _, m := range numbers {
				check(a.Var(n, m))
			}
			for _, x := range terms {
				check(a.Ext(n, x))
				check(a.Cut(n, x))
				check(a.Two(n, x, 1))
			}
		}
		for _, x := range terms {
			check(a.Not(x))
			for _, y := range terms {
				check(a.Ite(x, y, 1))
				check(a.Ite(1, x, y))
			}
			a.Width(x)
			a.Known(x)
			a.Eval(x, nil)
			a.Vars(x)
		}
	}
}
