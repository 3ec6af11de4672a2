package fix

import (
	"math"
	"math/rand"
	"slices"
	"testing"

	"crossroads/api"
	"crossroads/term"
)

// assignments are some, of all lengths.
func assignments(r *rand.Rand, n int) [][]uint16 {
	l := [][]uint16{nil, {}, random(r, api.MaxVars), random(r, api.MaxVars+3)}
	for range n {
		l = append(l, random(r, r.Intn(12)))
	}
	return l
}

// TestSomeOfRandomTerms: some of their Vars, all, none, and ids that are no Var's.
func TestSomeOfRandomTerms(t *testing.T) {
	for seed := range int64(60) {
		r := rand.New(rand.NewSource(seed))
		m := start(t)
		l := m.growth(r, 80)
		for _, x := range l {
			var p []pair
			for range r.Intn(8) {
				p = append(p, pair{r.Intn(12) - 2, random(r, 1)[0]})
			}
			m.stands(m.some(x, p...), x, p, assignments(r, 8))
		}
	}
}

// TestSomeOfEachAssignment: of two Vars, one and the other and both in their places, under all assignments.
func TestSomeOfEachAssignment(t *testing.T) {
	m := start(t)
	c, y := m.id(1, 0), m.id(8, 1)
	k := m.num(8, 5)
	x := m.ite(m.two(api.Or, c, m.two(api.Lt, y, k)), m.two(api.Sub, y, k), m.two(api.Mul, m.ext(8, c), m.not(y)))
	var envs [][]uint16
	for v := range 512 {
		envs = append(envs, []uint16{uint16(v & 1), uint16(v >> 1)})
	}
	for _, v := range []uint16{0, 1, 4, 5, 6, 127, 128, 255} {
		for b := range uint16(2) {
			for _, p := range [][]pair{{{0, b}}, {{1, v}}, {{0, b}, {1, v}}, {{1, v}, {0, b}}, {{0, b}, {0, 1 - b}}, {{1, v}, {1, 77}}} {
				m.stands(m.some(x, p...), x, p, envs)
			}
		}
	}
}

func TestSomeOfEachOperator(t *testing.T) {
	for i, w := range widths {
		m := start(t)
		x, y, c := m.id(w, i), m.id(w, i+3), m.id(1, 6)
		l := []term.T{x, m.num(w, 9), m.not(x), m.ite(c, x, y), m.ite(c, y, x), m.ext(16, x), m.cut(1, x)}
		for op := api.And; op <= api.Lt; op++ {
			l = append(l, m.two(op, x, y), m.two(op, y, x), m.two(op, x, x), m.two(op, x, m.num(w, 3)), m.two(op, m.num(w, 3), x))
		}
		r := rand.New(rand.NewSource(int64(w)))
		for _, z := range l {
			for _, v := range random(r, 6) {
				u := random(r, 1)[0]
				for _, p := range [][]pair{{{i, v}}, {{i + 3, v}}, {{6, v}}, {{i, v}, {i + 3, u}}, {{6, u}, {i, v}}, {{i, u}, {6, u}, {i + 3, v}}} {
					m.stands(m.some(z, p...), z, p, assignments(r, 5))
				}
			}
		}
	}
}

func TestSomeTellsNumbers(t *testing.T) {
	m := start(t)
	x, y := m.id(8, 0), m.id(8, 1)
	sum := m.two(api.Add, x, y)
	m.known(m.some(sum, pair{0, 200}, pair{1, 100}), 8, 44)
	part := m.some(sum, pair{1, 100})
	m.worth(part, 8, []uint16{200, 7}, 44)
	m.worth(part, 8, []uint16{1}, 101)
	m.known(m.some(part, pair{0, 200}), 8, 44)
	m.known(m.some(m.two(api.Lt, x, y), pair{0, 3}, pair{1, 4}), 1, 1)
	m.known(m.some(m.ext(16, sum), pair{0, 255}, pair{1, 255}), 16, 254)
	// What was asked for is as it was.
	m.worth(sum, 8, []uint16{1, 2}, 3)
}

func TestSomeOfAnIdThatStandsTwice(t *testing.T) {
	m := start(t)
	x, y := m.id(8, 3), m.id(16, 5)
	for _, p := range [][]pair{
		{{3, 7}, {3, 8}}, {{3, 7}, {3, 7}}, {{3, 0}, {3, 9}}, {{3, 7}, {5, 1}, {3, 8}, {5, 2}, {3, 9}}, {{5, 2}, {3, 7}, {3, 300}, {5, 2}}, {{-1, 4}, {3, 7}, {-1, 5}, {3, 8}},
	} {
		want := under(nil, p)[3]
		m.known(m.some(x, p...), 8, want)
		z := m.two(api.Mul, m.ext(16, x), y)
		m.stands(m.some(z, p...), z, p, [][]uint16{nil, {9, 9, 9, 9, 9, 9}, {0, 0, 0, 1, 0, 300}})
	}
}

func TestSomeOfNumbersAboveTheWidth(t *testing.T) {
	m := start(t)
	b, x, y := m.id(1, 0), m.id(8, 1), m.id(16, 2)
	for _, v := range []uint16{0, 1, 2, 3, 0xfe, 0xff, 0x100, 0x1ff, 0x1234, 0xff00, 0xfffe, 0xffff} {
		m.known(m.some(b, pair{0, v}), 1, v&1)
		m.known(m.some(x, pair{1, v}), 8, v&0xff)
		m.known(m.some(y, pair{2, v}), 16, v)
		m.known(m.some(m.ext(16, x), pair{1, v}), 16, v&0xff)
		m.known(m.some(m.ite(b, m.num(8, 7), m.num(8, 9)), pair{0, v}), 8, 9-2*(v&1))
		z := m.two(api.Add, m.ext(16, x), y)
		m.stands(m.some(z, pair{1, v}), z, []pair{{1, v}}, [][]uint16{nil, {0, 5, 5}, {0, 0, 0xffff}})
	}
}

func TestSomeOfIdsThatStandNotInIt(t *testing.T) {
	m := start(t)
	x, y := m.id(8, 0), m.id(8, 5)
	m.id(8, 1)
	sum := m.two(api.Xor, m.two(api.Add, x, y), m.num(8, 3))
	n := m.Len()
	for _, id := range []int{
		1, 2, 4, 6, api.MaxVars - 1, api.MaxVars, api.MaxVars + 5, -1, -5, -api.MaxVars, 256, 256 + 5, 1 << 16, 1 << 32, 1<<32 + 5, math.MinInt, math.MinInt + 5, math.MaxInt,
	} {
		for _, p := range [][]pair{{{id, 9}}, {{id, 0}, {id, 1}}, {{id, 9}, {-7, 8}}} {
			if z := m.some(sum, p...); z != sum {
				m.stands(z, sum, p, assignments(rand.New(rand.NewSource(1)), 20))
			}
			if z := m.some(m.num(8, 3), p...); z != m.num(8, 3) {
				t.Errorf("%v in the Const %d: %d", p, m.num(8, 3), z)
			}
		}
		if m.Len() != n {
			t.Errorf("id %d, that stands not in it, makes %d nodes", id, m.Len()-n)
		}
		p := []pair{{id, 9}, {5, 200}, {id, 10}}
		m.stands(m.some(sum, p...), sum, p, [][]uint16{nil, {100}, {255, 0, 0, 0, 0, 1}})
		n = m.Len()
	}
}

func TestSomeOfNoIds(t *testing.T) {
	for seed := range int64(10) {
		r := rand.New(rand.NewSource(seed))
		m := start(t)
		l := m.growth(r, 60)
		n := m.Len()
		for _, x := range l {
			for _, f := range []func() (term.T, api.Errno){
				func() (term.T, api.Errno) { return Some(m.Arena, x, nil, nil) },
				func() (term.T, api.Errno) { return Some(m.Arena, x, []int{}, []uint16{}) },
				func() (term.T, api.Errno) { return Some(m.Arena, x, nil, []uint16{}) },
			} {
				m.stands(m.fine(f()), x, nil, assignments(r, 4))
			}
		}
		if m.Len() != n {
			t.Errorf("no ids make %d nodes", m.Len()-n)
		}
	}
}

// TestSomeOfAllVars: it is Known then, and a Const that is there stands for it.
func TestSomeOfAllVars(t *testing.T) {
	for seed := range int64(40) {
		r := rand.New(rand.NewSource(seed))
		m := start(t)
		for _, x := range m.growth(r, 80) {
			p := []pair{{-3, 5}, {70, 6}}
			for _, i := range r.Perm(9) {
				p = append(p, pair{i, random(r, 1)[0]})
			}
			want := m.num(m.Width(x), m.Eval(x, under(nil, p)))
			if y := m.some(x, p...); y != want {
				t.Fatalf("seed %d: %v in term %d: %d, want the Const %d", seed, p, x, y, want)
			}
			p = p[:0]
			for _, id := range m.Vars(x) { // and no others
				p = append(p, pair{id, random(r, 1)[0]})
			}
			y := m.some(x, p...)
			m.known(y, m.Width(x), m.Eval(x, under(nil, p)))
		}
	}
}

func TestSomeOfAllOfMaxVars(t *testing.T) {
	m := start(t)
	sum, want := m.num(16, 0), uint16(0)
	var p []pair
	for id := range api.MaxVars {
		w := widths[id%3]
		sum = m.two(api.Add, sum, m.ext(16, m.id(w, id)))
		p = append(p, pair{id, 1})
		want++
		y := m.some(sum, p...)
		m.known(y, 16, want)
		if id > 0 { // all but the last, all but the first
			m.stands(m.some(sum, p[:id]...), sum, p[:id], [][]uint16{nil, make([]uint16, api.MaxVars), random(rand.New(rand.NewSource(1)), api.MaxVars)})
			m.stands(m.some(sum, p[1:]...), sum, p[1:], [][]uint16{nil, {1}, {7}})
		}
	}
}

// TestSomeOfWhatStandsInMany: there are 2^n ways through such a term.
func TestSomeOfWhatStandsInMany(t *testing.T) {
	m := start(t)
	x, y, c := m.id(16, 0), m.id(16, 2), m.id(1, 1)
	z := x
	for i := range 800 {
		u := m.two(api.Add, z, y)
		z = m.ite(c, m.two(api.Xor, u, u), m.two(api.Sub, m.two(api.Add, u, u), z))
		if i%7 == 0 {
			z = m.two(api.Add, z, m.two(api.Mul, z, x))
		}
	}
	envs := [][]uint16{nil, {3}, {3, 1, 5}, {3, 0, 5}, {0xffff, 0, 0x8001}, {7, 1, 9}}
	for _, p := range [][]pair{{{0, 3}}, {{2, 5}}, {{1, 0}}, {{1, 1}}, {{1, 0}, {2, 9}}, {{0, 3}, {2, 5}}, {{2, 5}, {1, 0}, {0, 11}}} {
		before := m.Len()
		m.stands(m.some(z, p...), z, p, envs)
		if n := m.Len() - before; n > Size(m.Arena, z) {
			t.Errorf("%v in a term of %d nodes makes %d", p, Size(m.Arena, z), n)
		}
	}
}

// TestSomeOfADeepTerm: nearly as deep as two of them have room for.
func TestSomeOfADeepTerm(t *testing.T) {
	m := start(t)
	x, k := m.id(16, 0), m.id(16, 1)
	y, n := x, uint16(0)
	for m.Len() < api.MaxTerms/2-4 {
		y = m.two(api.Add, y, k)
		n++
	}
	p := []pair{{0, 11}}
	z := m.some(y, p...)
	m.stands(z, y, p, [][]uint16{nil, {5, 3}, {0, 0xffff}})
	m.worth(z, 16, []uint16{9, 3}, 11+3*n)
	m.known(m.some(z, pair{1, 3}), 16, 11+3*n)
	m.known(m.some(y, pair{1, 3}, pair{0, 12}), 16, 12+3*n)
}

// TestSomeOfAsDeepATermAsThereIs: it leaves no room for a second one, but for a number.
func TestSomeOfAsDeepATermAsThereIs(t *testing.T) {
	m := start(t)
	x, k := m.id(16, 0), m.id(16, 1)
	y, n := x, uint16(0)
	for m.Len() < api.MaxTerms-1 {
		y = m.two(api.Add, y, k)
		n++
	}
	some := func() (term.T, api.Errno) { return Some(m.Arena, y, []int{0}, []uint16{11}) }
	m.refused("Some", some, api.ErrFull)
	m.known(m.some(y, pair{0, 11}, pair{1, 3}), 16, 11+3*n)
	m.refused("Some", some, api.ErrFull)
	m.known(m.some(y, pair{0, 11}, pair{1, 3}), 16, 11+3*n)
	m.refused("Some of others", func() (term.T, api.Errno) { return Some(m.Arena, y, []int{0, 1}, []uint16{12, 3}) }, api.ErrFull)
}

// TestSomeTakesNoRoomForWhatFallsAway: numbers that are reckoned on the way do not stay.
func TestSomeTakesNoRoomForWhatFallsAway(t *testing.T) {
	m := start(t)
	x, y, z, c := m.id(16, 0), m.id(16, 1), m.id(16, 2), m.id(1, 3)
	u := x
	for range 100 {
		u = m.two(api.Add, m.two(api.Mul, u, y), m.not(y))
	}
	v := m.ite(c, m.two(api.Sub, u, z), m.two(api.Div, z, u))
	n := m.Len()
	p := []pair{{0, 3}, {1, 7}, {3, 0}}
	m.stands(m.some(v, p...), v, p, [][]uint16{nil, {0, 0, 900}, {1, 1, 0xffff, 1}})
	if m.Len() > n+2 { // the number, and the Div by it
		t.Errorf("%d nodes more", m.Len()-n)
	}
}

// TestSomeLeavesWhatItDoesNotReach: parts without those Vars are the same terms.
func TestSomeLeavesWhatItDoesNotReach(t *testing.T) {
	m := start(t)
	x, y := m.id(8, 0), m.id(8, 1)
	part := m.not(m.two(api.Mul, x, m.two(api.Add, x, m.num(8, 9))))
	z := m.two(api.Shl, part, y)
	n := m.Len()
	got, want := m.some(z, pair{1, 9}), m.two(api.Shl, part, m.num(8, 9))
	if got != want || m.Len() != n+1 {
		t.Errorf("answer %d with %d nodes more, want %d with 1", got, m.Len()-n, want)
	}
}

func TestSomeOnceMore(t *testing.T) {
	m, o := start(t), start(t)
	r := rand.New(rand.NewSource(5))
	l, k := m.growth(rand.New(rand.NewSource(4)), 150), o.growth(rand.New(rand.NewSource(4)), 150)
	for i, x := range l {
		p := []pair{{r.Intn(9), 7}, {r.Intn(9), 300}}
		y := m.some(x, p...)
		n := m.Len()
		if z := m.some(x, p...); z != y || m.Len() != n {
			t.Fatalf("%v in term %d: %d, then %d with %d nodes more", p, x, y, z, m.Len()-n)
		}
		if z := o.some(k[i], p...); z != y {
			t.Fatalf("%v in term %d: %d, in an arena like it %d", p, x, y, z)
		}
	}
}

func TestSomeRefuses(t *testing.T) {
	m := start(t)
	x, k := m.two(api.Add, m.id(8, 0), m.id(8, 1)), m.num(1, 1)
	for _, y := range none(m.Arena) {
		m.refused("Some of none", func() (term.T, api.Errno) { return Some(m.Arena, y, nil, nil) }, api.ErrArg)
		m.refused("Some of none", func() (term.T, api.Errno) { return Some(m.Arena, y, []int{0}, []uint16{1}) }, api.ErrArg)
		m.refused("Some of none", func() (term.T, api.Errno) { return Some(m.Arena, y, []int{0}, nil) }, api.ErrArg)
	}
	for _, s := range []struct {
		ids  []int
		vals []uint16
	}{
		{[]int{0}, nil}, {nil, []uint16{1}}, {[]int{0, 1}, []uint16{1}}, {[]int{0}, []uint16{1, 2}}, {[]int{0, 0}, []uint16{1}},
		{[]int{9}, []uint16{}}, {[]int{-1, 5, 7}, []uint16{1, 2}}, {[]int{}, []uint16{1, 2}}, {make([]int, 300), make([]uint16, 299)}, {make([]int, 300), make([]uint16, 44)},
	} {
		m.refused("Some of unlike lists", func() (term.T, api.Errno) { return Some(m.Arena, x, s.ids, s.vals) }, api.ErrArg)
		m.refused("Some of a number", func() (term.T, api.Errno) { return Some(m.Arena, k, s.ids, s.vals) }, api.ErrArg)
	}
	// What lies behind the length is not there, though there is room.
	ids, vals := []int{0, 1}, []uint16{4, 5}
	m.refused("Some of unlike lists", func() (term.T, api.Errno) { return Some(m.Arena, x, ids[:1], vals) }, api.ErrArg)
	m.refused("Some of unlike lists", func() (term.T, api.Errno) { return Some(m.Arena, x, ids, vals[:1]) }, api.ErrArg)
}

func TestSomeOfNoArena(t *testing.T) {
	for _, x := range []term.T{-1, 0, 1, 2} {
		if y, e := Some(nil, x, nil, nil); y != 0 || e != api.ErrArg {
			t.Errorf("Some(nil, %d) = %d, %d", x, y, int(e))
		}
		if y, e := Some(nil, x, []int{0}, []uint16{1}); y != 0 || e != api.ErrArg {
			t.Errorf("Some(nil, %d) = %d, %d", x, y, int(e))
		}
		if y, e := Some(new(term.Arena), x, nil, nil); y != 0 || e != api.ErrArg {
			t.Errorf("Some of an empty arena's %d = %d, %d", x, y, int(e))
		}
	}
}

func TestSomeLeavesItsLists(t *testing.T) {
	m := start(t)
	x := m.two(api.Add, m.two(api.Mul, m.id(8, 0), m.id(8, 1)), m.id(8, 2))
	ids, vals := []int{1, 1, -4, 900, 0, 2}, []uint16{0x1ff, 3, 4, 5, 6, 7}
	for n := range len(ids) + 1 {
		p := []pair{}
		for i := range n {
			p = append(p, pair{ids[i], vals[i]})
		}
		y := m.fine(Some(m.Arena, x, ids[:n], vals[:n]))
		if !slices.Equal(ids, []int{1, 1, -4, 900, 0, 2}) || !slices.Equal(vals, []uint16{0x1ff, 3, 4, 5, 6, 7}) {
			t.Fatalf("the lists were changed: %v, %v", ids, vals)
		}
		ids2, vals2 := slices.Clone(ids), slices.Clone(vals)
		clear(ids) // and they are not kept
		clear(vals)
		m.stands(y, x, p, [][]uint16{nil, {1, 2, 3}, {200, 100, 50}})
		ids, vals = ids2, vals2
	}
}

// TestSomeOfManyIds: more than there are Vars.
func TestSomeOfManyIds(t *testing.T) {
	m := start(t)
	x, y := m.id(16, 7), m.id(16, 40)
	ids, vals := make([]int, 300000), make([]uint16, 300000)
	for i := range ids {
		ids[i], vals[i] = i-1000, uint16(i)
	}
	m.known(m.fine(Some(m.Arena, m.two(api.Sub, y, x), ids, vals)), 16, 33)
	m.known(m.fine(Some(m.Arena, x, ids, vals)), 16, 1007)
	for i := range ids {
		ids[i] = 7 + i%2
	}
	m.known(m.fine(Some(m.Arena, x, ids, vals)), 16, 0)
	m.worth(m.fine(Some(m.Arena, m.two(api.Sub, y, x), ids, vals)), 16, under(nil, []pair{{40, 5}}), 5)
}
