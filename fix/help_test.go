package fix

import (
	"math"
	"math/rand"
	"slices"
	"testing"

	"crossroads/api"
	"crossroads/term"
	"crossroads/wide"
)

// widths are those that may be; a Var of these tests is widths[id%3] wide.
var widths = []int{1, 8, 16}

// none are numbers that are no terms of a; some would be one if their high bits or their sign were lost.
func none(a *term.Arena) []term.T {
	n := term.T(a.Len())
	return []term.T{math.MinInt, math.MinInt + 1, -n - 1, -n, -1, 0, n + 1, n + 2, 1<<32 + 1, math.MaxInt}
}

// maker makes terms that have to be.
type maker struct {
	*testing.T
	*term.Arena
}

func start(t *testing.T) maker { return maker{t, term.New()} }

// fine is x, if e says that all is well with it.
func (m maker) fine(x term.T, e api.Errno) term.T {
	m.Helper()
	if e != api.OK || x < 1 || int(x) > m.Len() {
		m.Fatalf("answer %d, %d; there are %d terms", x, int(e), m.Len())
	}
	return x
}

func (m maker) num(w int, v uint16) term.T     { m.Helper(); return m.fine(m.Const(w, v)) }
func (m maker) id(w, id int) term.T            { m.Helper(); return m.fine(m.Var(w, id)) }
func (m maker) two(op int, x, y term.T) term.T { m.Helper(); return m.fine(m.Two(op, x, y)) }
func (m maker) not(x term.T) term.T            { m.Helper(); return m.fine(m.Not(x)) }
func (m maker) ite(c, x, y term.T) term.T      { m.Helper(); return m.fine(m.Ite(c, x, y)) }
func (m maker) ext(w int, x term.T) term.T     { m.Helper(); return m.fine(m.Ext(w, x)) }
func (m maker) cut(w int, x term.T) term.T     { m.Helper(); return m.fine(m.Cut(w, x)) }
func (m maker) all(l ...term.T) term.T         { m.Helper(); return m.fine(All(m.Arena, l)) }
func (m maker) any(l ...term.T) term.T         { m.Helper(); return m.fine(Any(m.Arena, l)) }
func (m maker) some(x term.T, p ...pair) term.T {
	m.Helper()
	ids, vals := lists(p)
	return m.fine(Some(m.Arena, x, ids, vals))
}

// pair is a Var's id, and a number in its place.
type pair struct {
	id  int
	val uint16
}

func lists(l []pair) (ids []int, vals []uint16) {
	for _, p := range l {
		ids, vals = append(ids, p.id), append(vals, p.val)
	}
	return ids, vals
}

// under is env with the numbers in it, of an id that stands twice the first.
func under(env []uint16, l []pair) []uint16 {
	r := make([]uint16, api.MaxVars)
	copy(r, env)
	done := map[int]bool{}
	for _, p := range l {
		if p.id >= 0 && p.id < len(r) && !done[p.id] {
			r[p.id] = p.val
		}
		done[p.id] = true
	}
	return r
}

// stands fails the test where y is not x with the numbers in it: as wide, worth the same under each of the assignments, Known where all of x's Vars have one, and with no Var that has one.
func (m maker) stands(y, x term.T, p []pair, envs [][]uint16) {
	m.Helper()
	if m.Width(y) != m.Width(x) {
		m.Fatalf("%v in term %d: of width %d, want %d", p, x, m.Width(y), m.Width(x))
	}
	for _, env := range envs {
		if got, want := m.Eval(y, env), m.Eval(x, under(env, p)); got != want {
			m.Fatalf("%v in term %d: worth %d under %v, want %d", p, x, got, env, want)
		}
	}
	ids, _ := lists(p)
	if v, ok := m.Known(y); covered(m.Vars(x), ids) && (!ok || v != m.Eval(x, under(nil, p))) {
		m.Fatalf("%v in term %d, whose Vars are %v: Known %d, %v", p, x, m.Vars(x), v, ok)
	}
	for _, id := range m.Vars(y) {
		if slices.Contains(ids, id) || !slices.Contains(m.Vars(x), id) {
			m.Fatalf("%v in term %d, whose Vars are %v: has Vars %v", p, x, m.Vars(x), m.Vars(y))
		}
	}
}

// covered tells whether all of vars are in ids.
func covered(vars, ids []int) bool {
	for _, id := range vars {
		if !slices.Contains(ids, id) {
			return false
		}
	}
	return true
}

// known fails the test where x is not the Const of width w and number v.
func (m maker) known(x term.T, w int, v uint16) {
	m.Helper()
	if r, ok := m.Known(x); !ok || r != v || m.Width(x) != w {
		m.Errorf("term %d: Known %d, %v, width %d; want %d, true, width %d", x, r, ok, m.Width(x), v, w)
	}
}

func truth(b bool) uint16 {
	if b {
		return 1
	}
	return 0
}

// worth fails the test where x is not w wide, or not worth v under env.
func (m maker) worth(x term.T, w int, env []uint16, v uint16) {
	m.Helper()
	if m.Width(x) != w {
		m.Errorf("term %d is %d wide, want %d", x, m.Width(x), w)
	}
	if r := m.Eval(x, env); r != v {
		m.Errorf("term %d is worth %d under %v, want %d", x, r, env, v)
	}
}

// refused fails the test where an answer is not none and e, or has changed how many nodes there are.
func (m maker) refused(what string, f func() (term.T, api.Errno), e api.Errno) {
	m.Helper()
	n := m.Len()
	x, g := f()
	if x != 0 || g != e {
		m.Errorf("%s = %d, %d; want 0, %d", what, x, int(g), int(e))
	}
	if m.Len() != n {
		m.Errorf("%s: refused, and there are %d nodes, not %d", what, m.Len(), n)
	}
}

// fill adds Consts of width 16, from 0 on, till there is room for just that many nodes more.
func (m maker) fill(room int) {
	m.Helper()
	for v := 0; m.Len() < api.MaxTerms-room; v++ {
		m.num(16, uint16(v))
	}
}

// random answers that many numbers, ends of widths among them.
func random(r *rand.Rand, n int) []uint16 {
	l := make([]uint16, n)
	for i := range l {
		l[i] = uint16(r.Intn(1 << 16))
		if r.Intn(3) == 0 {
			l[i] = []uint16{0, 1, 2, 8, 15, 16, 255, 256, 0x7fff, 0x8000, 0xff00, 0xffff}[r.Intn(12)]
		}
	}
	return l
}

// growth makes n terms of all kinds, over the Vars 0 to 8.
func (m maker) growth(r *rand.Rand, n int) []term.T {
	m.Helper()
	var l []term.T
	for _, w := range widths {
		l = append(l, m.num(w, 1))
	}
	for len(l) < n {
		if r.Intn(4) == 0 {
			l = append(l, m.leaf(r))
		} else {
			l = append(l, m.branch(r, l))
		}
	}
	return l
}

// leaf makes a Var or a Const.
func (m maker) leaf(r *rand.Rand) term.T {
	m.Helper()
	if r.Intn(4) == 0 {
		return m.num(widths[r.Intn(3)], uint16(r.Intn(1<<16)))
	}
	id := r.Intn(9)
	return m.id(widths[id%3], id)
}

// like answers one of l that is w wide.
func (m maker) like(r *rand.Rand, l []term.T, w int) term.T {
	for {
		if x := l[r.Intn(len(l))]; m.Width(x) == w {
			return x
		}
	}
}

// branch makes a term of some of l.
func (m maker) branch(r *rand.Rand, l []term.T) term.T {
	m.Helper()
	x := l[r.Intn(len(l))]
	w, o := m.Width(x), widths[r.Intn(3)]
	switch r.Intn(6) {
	case 0:
		return m.not(x)
	case 1:
		return m.ite(m.like(r, l, 1), x, m.like(r, l, w))
	case 2:
		if o >= w {
			return m.ext(o, x)
		}
		return m.cut(o, x)
	}
	op := api.And + r.Intn(api.Lt-api.And+1)
	y := m.two(op, x, m.like(r, l, w))
	if m.Width(y) != wide.Out(op, w) {
		m.Fatalf("operator %d of width %d: width %d", op, w, m.Width(y))
	}
	return y
}
