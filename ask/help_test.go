package ask

import (
	"math"
	"math/rand"
	"slices"
	"testing"

	"crossroads/api"
	"crossroads/dpll"
	"crossroads/term"
)

// endless is a budget with which no question is Unknown.
const endless = 1 << 40

// widths are those that may be.
var widths = []int{1, 8, 16}

// none are numbers that are no terms of a; some would be one if their high bits or their sign were lost.
func none(a *term.Arena) []term.T {
	n := term.T(a.Len())
	return []term.T{math.MinInt, math.MinInt + 1, -n - 1, -n, -2, -1, 0, n + 1, n + 2, 1<<16 + 1, 1<<32 + 1, math.MaxInt}
}

// asker makes terms that have to be, and asks what can be.
type asker struct {
	*testing.T
	*term.Arena
}

func start(t *testing.T) asker { return asker{t, term.New()} }

// fine is x, if e says that all is well with it.
func (k asker) fine(x term.T, e api.Errno) term.T {
	k.Helper()
	if e != api.OK || x < 1 || int(x) > k.Len() {
		k.Fatalf("answer %d, %d; there are %d terms", x, int(e), k.Len())
	}
	return x
}

func (k asker) num(w int, v uint16) term.T     { k.Helper(); return k.fine(k.Const(w, v)) }
func (k asker) id(w, id int) term.T            { k.Helper(); return k.fine(k.Var(w, id)) }
func (k asker) two(op int, x, y term.T) term.T { k.Helper(); return k.fine(k.Two(op, x, y)) }
func (k asker) not(x term.T) term.T            { k.Helper(); return k.fine(k.Not(x)) }
func (k asker) ite(c, x, y term.T) term.T      { k.Helper(); return k.fine(k.Ite(c, x, y)) }
func (k asker) ext(w int, x term.T) term.T     { k.Helper(); return k.fine(k.Ext(w, x)) }
func (k asker) cut(w int, x term.T) term.T     { k.Helper(); return k.fine(k.Cut(w, x)) }

// is and less hold x against a number.
func (k asker) is(x term.T, v uint16) term.T {
	k.Helper()
	return k.two(api.Eq, x, k.num(k.Width(x), v))
}

func (k asker) less(x term.T, v uint16) term.T {
	k.Helper()
	return k.two(api.Lt, x, k.num(k.Width(x), v))
}

// list is a list of terms.
func list(l ...term.T) []term.T { return l }

// can fails the test where Can says anything but kind, or where its assignment is none.
func (k asker) can(l []term.T, budget, kind int) []uint16 {
	k.Helper()
	got, env, e := Can(k.Arena, l, budget)
	if got != kind || e != api.OK {
		k.Fatalf("Can(%v, %d) = %d, %v, %d; want %d", l, budget, got, env, int(e), kind)
	}
	if kind != dpll.Sat && len(env) != 0 {
		k.Fatalf("Can(%v, %d) = %d with %v", l, budget, got, env)
	}
	if kind == dpll.Sat {
		k.meets(l, env)
	}
	return env
}

// meets fails the test where env is not MaxVars numbers under which all of l are 1, each as narrow as its Var, 0 of those that stand not in l.
func (k asker) meets(l []term.T, env []uint16) {
	k.Helper()
	if len(env) != api.MaxVars {
		k.Fatalf("an assignment of %d numbers", len(env))
	}
	stand := map[int]int{}
	for _, x := range l {
		if k.Eval(x, env) != 1 {
			n, _ := k.Node(x)
			k.Fatalf("term %d of %v, %+v, is 0 under %v", x, l, n, env)
		}
		for _, id := range k.Vars(x) {
			stand[id] = k.wide(id)
		}
	}
	for id, v := range env {
		if v>>stand[id] != 0 {
			k.Fatalf("Can(%v): Var %d, which is %d wide there, is %d", l, id, stand[id], v)
		}
	}
}

// wide answers how wide a Var is that is there.
func (k asker) wide(id int) int {
	k.Helper()
	for x := term.T(1); int(x) <= k.Len(); x++ {
		if n, _ := k.Node(x); n.Op == api.Var && int(n.Val) == id {
			return n.W
		}
	}
	k.Fatalf("Var %d is not there", id)
	return 0
}

// values fails the test where Values are others than want.
func (k asker) values(l []term.T, x term.T, most, budget int, want ...uint16) {
	k.Helper()
	if got, ok, e := Values(k.Arena, l, x, most, budget); !slices.Equal(got, want) || !ok || e != api.OK {
		k.Fatalf("Values(%v, %d, %d, %d) = %v, %v, %d; want %v", l, x, most, budget, got, ok, int(e), want)
	}
}

// noValues fails the test where Values says anything but false, and none.
func (k asker) noValues(l []term.T, x term.T, most, budget int) {
	k.Helper()
	if got, ok, e := Values(k.Arena, l, x, most, budget); len(got) != 0 || ok || e != api.OK {
		k.Fatalf("Values(%v, %d, %d, %d) = %v, %v, %d; want none, false", l, x, most, budget, got, ok, int(e))
	}
}

// refused fails the test where Can and Values of l say anything but e alone, or where that adds terms.
func (k asker) refused(l []term.T, x term.T, most, budget int, e api.Errno) {
	k.Helper()
	before := k.Len()
	kind, env, g := Can(k.Arena, l, budget)
	if kind != 0 || len(env) != 0 || g != e {
		k.Errorf("Can(%v, %d) = %d, %v, %d; want nothing, %d", l, budget, kind, env, int(g), int(e))
	}
	k.refusedValues(l, x, most, budget, e)
	if k.Len() != before {
		k.Errorf("what was refused with %d added %d terms", int(e), k.Len()-before)
	}
}

func (k asker) refusedValues(l []term.T, x term.T, most, budget int, e api.Errno) {
	k.Helper()
	if r, ok, g := Values(k.Arena, l, x, most, budget); len(r) != 0 || ok || g != e {
		k.Errorf("Values(%v, %d, %d, %d) = %v, %v, %d; want nothing, %d", l, x, most, budget, r, ok, int(g), int(e))
	}
}

// to answers the numbers from low to below high.
func to(low, high int) []uint16 {
	var r []uint16
	for v := low; v < high; v++ {
		r = append(r, uint16(v))
	}
	return r
}

// product is a puzzle that takes the solver decisions, over the Vars id and id+1 of 8 bits: their product is v, the first is above 1, and not above the second. The Var id+2, of 16 bits, hangs on the first: they are too many bits to go through.
func (k asker) product(id int, v uint16) (l []term.T, x, y term.T) {
	k.Helper()
	x, y = k.ext(16, k.id(8, id)), k.ext(16, k.id(8, id+1))
	return list(k.is(k.two(api.Mul, x, y), v), k.not(k.less(x, 2)), k.not(k.two(api.Lt, y, x)), k.is(k.two(api.Xor, x, k.id(16, id+2)), 0x5a5a)), x, y
}

// shape is Vars, by id, and how wide they are.
type shape map[int]int

// ids answers the Vars of s, rising.
func (s shape) ids() []int {
	var l []int
	for id := range s {
		l = append(l, id)
	}
	slices.Sort(l)
	return l
}

// envs answers all assignments of the Vars.
func (s shape) envs() [][]uint16 {
	all := [][]uint16{make([]uint16, api.MaxVars)}
	for _, id := range s.ids() {
		var more [][]uint16
		for _, env := range all {
			for v := range 1 << s[id] {
				env = slices.Clone(env)
				env[id] = uint16(v)
				more = append(more, env)
			}
		}
		all = more
	}
	return all
}

// growth makes random terms over the Vars of s, and answers them by their width.
func (k asker) growth(r *rand.Rand, s shape, many int) map[int][]term.T {
	k.Helper()
	by := map[int][]term.T{}
	put := func(x term.T) { by[k.Width(x)] = append(by[k.Width(x)], x) }
	for _, id := range s.ids() {
		put(k.id(s[id], id))
	}
	for _, w := range widths {
		for _, v := range []uint16{0, 1, uint16(r.Intn(20)), uint16(r.Intn(1 << 16))} {
			put(k.num(w, v))
		}
	}
	for range many {
		w := widths[r.Intn(3)]
		pick := func(w int) term.T { return by[w][r.Intn(len(by[w]))] }
		switch r.Intn(7) {
		case 0:
			put(k.not(pick(w)))
		case 1:
			put(k.ite(pick(1), pick(w), pick(w)))
		case 2:
			put(k.ext(w, pick(widths[r.Intn(1+slices.Index(widths, w))])))
		case 3:
			put(k.cut(widths[r.Intn(1+slices.Index(widths, w))], pick(w)))
		case 4:
			put(k.two([]int{api.Eq, api.Lt}[r.Intn(2)], pick(w), pick(w)))
		default:
			put(k.two(api.And+r.Intn(api.Lt-api.And+1), pick(w), pick(w)))
		}
	}
	return by
}
