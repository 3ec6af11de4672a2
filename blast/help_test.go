package blast

import (
	"math"
	"math/rand"
	"slices"
	"testing"

	"crossroads/api"
	"crossroads/clause"
	"crossroads/term"
)

// widths are those that may be.
var widths = []int{1, 8, 16}

// pairs are the operators of Two.
var pairs = []int{
	api.And, api.Or, api.Xor, api.Add, api.Sub, api.Mul, api.Div, api.Mod, api.Shl, api.Shr, api.Eq, api.Lt,
}

// edges are numbers about the ends of each width, and about what a width can be shifted by.
var edges = []uint16{
	0, 1, 2, 3, 5, 7, 8, 9, 10, 15, 16, 17, 24, 31, 32, 33, 64, 85, 100, 127, 128, 129, 170, 200, 254, 255, 256, 257, 300, 0x5555, 0x7fff, 0x8000, 0x8001, 0xaaaa, 0xff00, 0xfffe, 0xffff,
}

// none are numbers that are no terms of a; some would be one if their high bits or their sign were lost.
func none(a *term.Arena) []term.T {
	n := term.T(a.Len())
	return []term.T{math.MinInt, math.MinInt + 1, -n - 1, -n, -2, -1, 0, n + 1, n + 2, 1<<16 + 1, 1<<32 + 1, math.MaxInt}
}

// answer is what was asked for, and the literals of it.
type answer struct {
	x term.T
	l []int
}

// asker makes terms that have to be, asks a Blast of them, and remembers what it told.
type asker struct {
	*testing.T
	*term.Arena
	b    *Blast
	told []answer
}

func start(t *testing.T) *asker {
	a := term.New()
	return &asker{T: t, Arena: a, b: New(a)}
}

// fine is x, if e says that all is well with it.
func (k *asker) fine(x term.T, e api.Errno) term.T {
	k.Helper()
	if e != api.OK || x < 1 || int(x) > k.Len() {
		k.Fatalf("answer %d, %d; there are %d terms", x, int(e), k.Len())
	}
	return x
}

func (k *asker) num(w int, v uint16) term.T     { k.Helper(); return k.fine(k.Const(w, v)) }
func (k *asker) id(w, id int) term.T            { k.Helper(); return k.fine(k.Var(w, id)) }
func (k *asker) two(op int, x, y term.T) term.T { k.Helper(); return k.fine(k.Two(op, x, y)) }
func (k *asker) not(x term.T) term.T            { k.Helper(); return k.fine(k.Not(x)) }
func (k *asker) ite(c, x, y term.T) term.T      { k.Helper(); return k.fine(k.Ite(c, x, y)) }
func (k *asker) ext(w int, x term.T) term.T     { k.Helper(); return k.fine(k.Ext(w, x)) }
func (k *asker) cut(w int, x term.T) term.T     { k.Helper(); return k.fine(k.Cut(w, x)) }

// ask asks for the bits of x, which have to be there, as many as x is wide.
func (k *asker) ask(x term.T) []int {
	k.Helper()
	l, e := k.b.Bits(x)
	if e != api.OK || len(l) != k.Width(x) {
		k.Fatalf("Bits(%d) = %v, %d; it is %d wide", x, l, int(e), k.Width(x))
	}
	k.told = append(k.told, answer{x, slices.Clone(l)})
	return l
}

// refused fails the test where Bits(x) is anything but e alone.
func (k *asker) refused(x term.T, e api.Errno) {
	k.Helper()
	if l, g := k.b.Bits(x); len(l) != 0 || g != e {
		k.Errorf("Bits(%d) = %v, %d; want nothing, %d", x, l, int(g), int(e))
	}
}

// vars are the widths of the Vars that stand in what was asked for, by id; 0 of others.
func (k *asker) vars() (l [api.MaxVars]int) {
	for _, a := range k.told {
		for _, id := range k.Vars(a.x) {
			for _, w := range widths {
				if _, e := k.Var(w, id); e == api.OK { // it is there already, with just one width
					l[id] = w
				}
			}
		}
	}
	return l
}

// bits fails the test where Bit tells of other bits than those of the Vars that were asked for.
func (k *asker) bits() {
	k.Helper()
	vars := k.vars()
	for id := -2; id < api.MaxVars+3; id++ {
		w := 0
		if id >= 0 && id < api.MaxVars {
			w = vars[id]
		}
		for i := -2; i < 20; i++ {
			if l, ok := k.b.Bit(id, i); ok != (i >= 0 && i < w) || !ok && l != 0 {
				k.Fatalf("Bit(%d, %d) = %d, %v; it is %d wide", id, i, l, ok, w)
			}
		}
	}
}

// lanes are truths under 64 assignments at once: by variable, those under which it is true, and those under which it is false.
type lanes struct{ yes, no []uint64 }

// hold makes x hold in some lanes, and tells whether that is new.
func (l lanes) hold(x int, in uint64) bool {
	p := &l.yes[max(x, -x)]
	if x < 0 {
		p = &l.no[-x]
	}
	more := in&^*p != 0
	*p |= in
	return more
}

// holds answers in which lanes x holds.
func (l lanes) holds(x int) uint64 {
	if x < 0 {
		return l.no[-x]
	}
	return l.yes[x]
}

// follow makes all hold that follows at once, and answers in which lanes a clause can't hold any more.
func (l lanes) follow(f [][]int) (clash uint64) {
	for changed := true; changed; {
		changed = false
		for _, c := range f {
			open, just := uint64(0), uint64(0) // where a literal isn't false, and where just one isn't
			for _, x := range c {
				not := ^l.holds(-x)
				just, open = just&^not|not&^open, open|not
			}
			clash |= ^open
			for _, x := range c {
				if l.hold(x, just&^l.holds(-x)) {
					changed = true
				}
			}
		}
	}
	return clash
}

// lanes answers lanes in which the bits of those Vars are as they are under envs.
func (k *asker) lanes(n int, vars [api.MaxVars]int, envs [][]uint16) lanes {
	l := lanes{make([]uint64, n+1), make([]uint64, n+1)}
	for id, w := range vars {
		for i := range w {
			x, _ := k.b.Bit(id, i)
			for lane, env := range envs {
				if id < len(env) && env[id]>>i&1 == 1 {
					l.hold(x, 1<<lane)
				} else {
					l.hold(-x, 1<<lane)
				}
			}
		}
	}
	return l
}

// stands fails the test where the promise does not stand under these assignments: that just one assignment of the variables goes with each, under which the literals that were told are the bits of what was asked for. What follows at once does so under each that holds: where it is all, there is just one.
func (k *asker) stands(envs [][]uint16) {
	k.Helper()
	k.bits()
	n, f := k.b.Formula()
	if !clause.May(n, f) {
		k.Fatalf("a formula of %d variables and %d clauses may not be", n, len(f))
	}
	vars := k.vars()
	for part := range slices.Chunk(envs, 64) {
		l := k.lanes(n, vars, part)
		clash := l.follow(f)
		in := uint64(math.MaxUint64) >> (64 - len(part))
		for v := 1; v <= n; v++ {
			if l.yes[v]&l.no[v]&in != 0 || (l.yes[v]|l.no[v])&in != in || clash&in != 0 {
				k.Fatalf("variable %d of %d is true in %x, false in %x, of %x; clash in %x", v, n, l.yes[v], l.no[v], in, clash)
			}
		}
		for _, a := range k.told {
			k.worth(a, l, part)
		}
	}
}

// worth fails the test where the literals that were told are not what term says.
func (k *asker) worth(a answer, l lanes, envs [][]uint16) {
	k.Helper()
	for lane, env := range envs {
		v := uint16(0)
		for i, x := range a.l {
			v |= uint16(l.holds(x)>>lane&1) << i
		}
		if want := k.Eval(a.x, env); v != want {
			n, _ := k.Node(a.x)
			k.Fatalf("the bits of term %d, %+v, are %d under %v, want %d", a.x, n, v, env, want)
		}
	}
}

// each answers all assignments of Vars of these widths, 16 bits at most in all: Var i is widths[i] wide.
func each(widths ...int) (envs [][]uint16) {
	sum := 0
	for _, w := range widths {
		sum += w
	}
	for n := range 1 << sum {
		var env []uint16
		for _, w := range widths {
			env = append(env, uint16(n)&(1<<w-1))
			n >>= w
		}
		envs = append(envs, env)
	}
	return envs
}

// twos answers assignments of two Vars: all pairs of edges, and others.
func twos(r *rand.Rand, many int) (envs [][]uint16) {
	for _, u := range edges {
		for _, v := range edges {
			envs = append(envs, []uint16{u, v})
		}
	}
	for range many {
		envs = append(envs, []uint16{uint16(r.Intn(1 << 16)), uint16(r.Intn(1 << 16))}, []uint16{uint16(r.Intn(1 << 16)), uint16(r.Intn(300))})
	}
	return envs
}

// some answers assignments of that many Vars, of all lengths up to that.
func some(r *rand.Rand, vars, many int) [][]uint16 {
	envs := [][]uint16{nil, make([]uint16, vars), slices.Repeat([]uint16{0xffff}, vars)}
	for len(envs) < many {
		env := make([]uint16, r.Intn(vars+1))
		for i := range env {
			env[i] = uint16(r.Intn(1 << 16))
			if r.Intn(2) == 0 {
				env[i] = edges[r.Intn(len(edges))]
			}
		}
		envs = append(envs, env)
	}
	return envs
}

// growth makes random terms over the Vars 0 to 8, of which Var i is widths[i%3] wide.
func (k *asker) growth(r *rand.Rand, many int) []term.T {
	var l []term.T
	by := map[int][]term.T{}
	put := func(x term.T) { l, by[k.Width(x)] = append(l, x), append(by[k.Width(x)], x) }
	for i := range 9 {
		put(k.id(widths[i%3], i))
		put(k.num(widths[i%3], edges[r.Intn(len(edges))]))
	}
	for len(l) < many {
		w := widths[r.Intn(3)]
		pick := func(w int) term.T { return by[w][r.Intn(len(by[w]))] }
		switch r.Intn(8) {
		case 0:
			put(k.not(pick(w)))
		case 1:
			put(k.ite(pick(1), pick(w), pick(w)))
		case 2:
			put(k.ext(w, pick(widths[r.Intn(1+slices.Index(widths, w))])))
		case 3:
			put(k.cut(widths[r.Intn(1+slices.Index(widths, w))], pick(w)))
		default:
			put(k.two(pairs[r.Intn(len(pairs))], pick(w), pick(w)))
		}
	}
	return l
}
