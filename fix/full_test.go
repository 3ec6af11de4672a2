package fix

import (
	"testing"

	"crossroads/api"
	"crossroads/term"
)

// crowded is an arena with room for just that many nodes more, and a term of 8 bits over the Vars 0, 1, 2 whose Var 2 can be put into with 4 new nodes.
func crowded(t *testing.T, room int) (maker, term.T) {
	m := start(t)
	x, y, z := m.id(8, 0), m.id(8, 1), m.id(8, 2)
	u := m.two(api.Add, m.two(api.Mul, x, z), m.two(api.Xor, y, m.two(api.Mul, x, z)))
	m.fill(room)
	return m, u
}

// TestSomeWithoutRoom: what is refused adds nothing, and is refused once more; with just as much room as it takes all is well.
func TestSomeWithoutRoom(t *testing.T) {
	for room := range 8 {
		m, u := crowded(t, room)
		p := []pair{{2, 77}}
		some := func() (term.T, api.Errno) { return Some(m.Arena, u, []int{2}, []uint16{77}) }
		if room < 4 {
			m.refused("Some", some, api.ErrFull)
			m.refused("Some once more", some, api.ErrFull)
			for v := range room { // as much room as there was
				m.num(8, uint16(200+v))
			}
			m.refused("Const", func() (term.T, api.Errno) { return m.Const(8, 100) }, api.ErrFull)
			m.refused("Some", some, api.ErrFull)
			continue
		}
		before := m.Len()
		y := m.fine(some())
		m.stands(y, u, p, [][]uint16{nil, {1, 2, 3}, {255, 7, 9}})
		if m.Len() != before+4 {
			t.Errorf("%d nodes more, want 4", m.Len()-before)
		}
		if z := m.fine(some()); z != y {
			t.Errorf("once more: %d, want %d", z, y)
		}
	}
}

// TestSomeOfWhatIsThere: a full arena answers it.
func TestSomeOfWhatIsThere(t *testing.T) {
	m := start(t)
	x, y := m.id(8, 0), m.id(8, 1)
	sum := m.two(api.Add, x, y)
	known, part := m.num(8, 44), m.two(api.Add, x, m.num(8, 3))
	m.fill(0)
	for _, s := range []struct {
		x    term.T
		p    []pair
		want term.T
	}{
		{sum, nil, sum}, {sum, []pair{{2, 9}, {-1, 4}}, sum}, {sum, []pair{{0, 200}, {1, 100}}, known}, {sum, []pair{{1, 3}}, part},
		{sum, []pair{{1, 0x103}, {5, 5}}, part}, {part, []pair{{0, 41}}, known}, {known, []pair{{0, 1}}, known}, {y, []pair{{1, 44}}, known}, {x, []pair{{1, 9}}, x},
	} {
		if z := m.some(s.x, s.p...); z != s.want {
			t.Errorf("%v in term %d: %d, want %d", s.p, s.x, z, s.want)
		}
	}
	for _, p := range [][]pair{{{0, 9}}, {{1, 9}}, {{0, 3}}, {{0, 1}, {1, 1}}} {
		ids, vals := lists(p)
		m.refused("Some", func() (term.T, api.Errno) { return Some(m.Arena, sum, ids, vals) }, api.ErrFull)
	}
	m.refused("Some of none", func() (term.T, api.Errno) { return Some(m.Arena, 0, nil, nil) }, api.ErrArg)
	m.refused("Some of unlike lists", func() (term.T, api.Errno) { return Some(m.Arena, sum, []int{0}, nil) }, api.ErrArg)
	m.refused("Some of none", func() (term.T, api.Errno) { return Some(m.Arena, term.T(m.Len()+1), []int{0}, []uint16{9}) }, api.ErrArg)
}

// TestJoinedWithoutRoom: likewise of All and Any, of five, which take four nodes.
func TestJoinedWithoutRoom(t *testing.T) {
	for what, f := range joins {
		for room := range 7 {
			m := start(t)
			var l []term.T
			for id := range 5 {
				l = append(l, m.id(1, id))
			}
			m.fill(room)
			join := func() (term.T, api.Errno) { return f(m.Arena, l) }
			if room < 4 {
				m.refused(what, join, api.ErrFull)
				m.refused(what, join, api.ErrFull)
				for v := range room {
					m.num(8, uint16(v))
				}
				m.refused("Const", func() (term.T, api.Errno) { return m.Const(8, 100) }, api.ErrFull)
				m.refused(what, join, api.ErrFull)
				continue
			}
			before := m.Len()
			y := m.fine(join())
			if m.Len() != before+4 {
				t.Errorf("%s: %d nodes more, want 4", what, m.Len()-before)
			}
			if z := m.fine(join()); z != y {
				t.Errorf("%s once more: %d, want %d", what, z, y)
			}
			m.worth(y, 1, []uint16{1, 1, 1, 1, 1}, 1)
			m.worth(y, 1, nil, 0)
		}
	}
}

// TestJoinedOfWhatIsThere: a full arena answers it.
func TestJoinedOfWhatIsThere(t *testing.T) {
	m := start(t)
	x, y, w := m.id(1, 0), m.id(1, 1), m.id(8, 2)
	no, yes := m.num(1, 0), m.num(1, 1)
	both := m.all(x, y)
	m.fill(0)
	for _, s := range []struct{ got, want term.T }{
		{m.all(), yes}, {m.any(), no}, {m.all(x), x}, {m.any(x), x}, {m.all(x, y), both}, {m.all(x, x, x), x}, {m.any(y, y), y},
		{m.all(yes, x, yes), x}, {m.any(no, x), x}, {m.all(x, no, y), no}, {m.any(y, yes, x), yes}, {m.all(both, both), both},
	} {
		if s.got != s.want {
			t.Errorf("answer %d, want %d", s.got, s.want)
		}
	}
	m.refused("Any", func() (term.T, api.Errno) { return Any(m.Arena, []term.T{x, y}) }, api.ErrFull)
	m.refused("All", func() (term.T, api.Errno) { return All(m.Arena, []term.T{both, x, y}) }, api.ErrFull)
	for what, f := range joins { // the errors named ahead are told ahead
		m.refused(what, func() (term.T, api.Errno) { return f(m.Arena, []term.T{x, y, w}) }, api.ErrWidth)
		m.refused(what, func() (term.T, api.Errno) { return f(m.Arena, []term.T{x, y, 0}) }, api.ErrArg)
	}
	n := start(t)
	n.fill(0)
	n.refused("All of nothing", func() (term.T, api.Errno) { return All(n.Arena, nil) }, api.ErrFull)
	n.refused("Any of nothing", func() (term.T, api.Errno) { return Any(n.Arena, nil) }, api.ErrFull)
}

// TestJoinedOfMoreThanThereIsRoomFor: of so many terms that together they are too many nodes; fewer of them have room.
func TestJoinedOfMoreThanThereIsRoomFor(t *testing.T) {
	for what, f := range joins {
		m := start(t)
		x := m.id(16, 0)
		var l []term.T
		for m.Len() < api.MaxTerms*5/6 {
			l = append(l, m.two(api.Eq, x, m.num(16, uint16(len(l)))))
		}
		join := func() (term.T, api.Errno) { return f(m.Arena, l) }
		m.refused(what, join, api.ErrFull)
		m.refused(what, join, api.ErrFull)
		room := api.MaxTerms - m.Len()
		y := m.fine(f(m.Arena, l[:room+1]))
		m.worth(y, 1, []uint16{0xffff}, 0)
		if m.Len() != api.MaxTerms {
			t.Errorf("%s of %d: there are %d nodes", what, room+1, m.Len())
		}
	}
}
