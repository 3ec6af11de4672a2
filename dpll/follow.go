package dpll

// follow makes all hold that follows at once from what holds; it answers a claim that can't hold any more, or none.
func (s *search) follow() int32 {
	for s.next < len(s.trail) {
		gone := s.trail[s.next].other()
		s.next++
		if k := s.visit(gone); k != none {
			return k
		}
	}
	return none
}

// visit looks at the claims that watch gone; it answers one that can't hold any more, or none.
func (s *search) visit(gone literal) int32 {
	l := s.watches[gone]
	kept := l[:0]
	for i, w := range l {
		if s.worth[w.another] == 1 {
			kept = append(kept, w)
			continue
		}
		first, moved := s.move(w.claim, gone)
		if moved {
			continue
		}
		kept = append(kept, watch{w.claim, first})
		switch s.worth[first] {
		case 0:
			s.hold(first, w.claim)
		case -1:
			s.watches[gone] = append(kept, l[i+1:]...)
			return w.claim
		}
	}
	s.watches[gone] = kept
	return none
}

// move has the k-th claim watch a literal that is not gone in gone's place, if it has one; it answers the other that it watches, which is its first then, and whether it moved.
func (s *search) move(k int32, gone literal) (literal, bool) {
	c := &s.claims[k]
	l := c.literals
	if l[0] == gone {
		l[0], l[1] = l[1], l[0]
	}
	if s.worth[l[0]] == 1 {
		return l[0], false
	}
	i := s.left(l, c.from, len(l))
	if i == none {
		i = s.left(l, 2, c.from)
	}
	if i == none {
		return l[0], false
	}
	c.from = i
	l[1], l[i] = l[i], l[1]
	s.watches[l[1]] = append(s.watches[l[1]], watch{k, l[0]})
	return l[0], true
}

// left answers the first place from i to below end whose literal is not gone, or none.
func (s *search) left(l []literal, i, end int) int {
	for ; i < end; i++ {
		if s.worth[l[i]] >= 0 {
			return i
		}
	}
	return none
}
