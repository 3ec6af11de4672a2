package dpll

import "slices"

// notes are what is noted while a clash is looked into.
type notes struct {
	seen    []bool  // by number: whether the clash hangs on it
	numbers []int32 // those that are seen
	counted []int   // by how many decisions there were: the last clash that hung on the last of them
	clashes int
}

// newNotes are the notes of a search for truths of n numbers.
func newNotes(n int) notes {
	return notes{seen: make([]bool, n), counted: make([]int, n+1)}
}

// forget makes all numbers unseen.
func (o *notes) forget() {
	for _, v := range o.numbers {
		o.seen[v] = false
	}
	o.numbers = o.numbers[:0]
}

// turn learns from the k-th claim, which can't hold any more, takes back the decisions that led there, and goes another way.
func (s *search) turn(k int32) {
	l := s.lesson(k)
	spread := s.spread(l)
	s.queue.prefer(s.notes.numbers)
	s.notes.forget()
	s.pace.clash(spread)
	if len(l) == 1 {
		s.takeBack(0)
		s.hold(l[0], none)
	} else {
		s.takeBack(int(s.depth[l[1].number()]))
		s.hold(l[0], s.claim(l, spread))
	}
	if s.pace.due() {
		s.startOver()
	}
}

// lesson answers what the clash of the k-th claim teaches: it follows from all claims, and of its literals, which are all gone, just the first hangs on the last decision, and none on a later one than the second.
func (s *search) lesson(k int32) []literal {
	l := s.shorter(s.gather(k))
	for i := 2; i < len(l); i++ {
		if s.depth[l[i].number()] > s.depth[l[1].number()] {
			l[1], l[i] = l[i], l[1]
		}
	}
	return l
}

// gather goes back along the trail, from what is gone to why it is, until just one literal hangs on the last decision: it is the first of the answer.
func (s *search) gather(k int32) []literal {
	l := make([]literal, 1)
	last := s.note(k, &l)
	for i := len(s.trail) - 1; ; i-- {
		x := s.trail[i]
		if !s.notes.seen[x.number()] {
			continue
		}
		if last == 1 {
			l[0] = x.other()
			return l
		}
		last += s.note(s.why[x.number()], &l) - 1
	}
}

// note notes the numbers of the k-th claim that were not noted yet, adds those literals to l that hang on earlier decisions, and answers how many hang on the last one.
func (s *search) note(k int32, l *[]literal) int {
	last := 0
	for _, x := range s.claims[k].literals {
		v := x.number()
		if s.notes.seen[v] || s.depth[v] == 0 {
			continue
		}
		s.notes.seen[v] = true
		s.notes.numbers = append(s.notes.numbers, v)
		if int(s.depth[v]) == len(s.marks) {
			last++
		} else {
			*l = append(*l, x)
		}
	}
	return last
}

// shorter lets out those behind the first that are gone because of others alone.
func (s *search) shorter(l []literal) []literal {
	return append(l[:1], slices.DeleteFunc(l[1:], s.needless)...)
}

// needless tells whether x is gone because of nothing but what is noted, or known for good.
func (s *search) needless(x literal) bool {
	k := s.why[x.number()]
	if k == none {
		return false
	}
	return !slices.ContainsFunc(s.claims[k].literals, func(y literal) bool {
		return !s.notes.seen[y.number()] && s.depth[y.number()] > 0
	})
}

// spread answers on how many decisions l hangs.
func (s *search) spread(l []literal) int {
	s.notes.clashes++
	n := 0
	for _, x := range l {
		if d := s.depth[x.number()]; s.notes.counted[d] != s.notes.clashes {
			s.notes.counted[d] = s.notes.clashes
			n++
		}
	}
	return n
}
