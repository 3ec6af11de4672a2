package dpll

import "crossroads/clause"

// none stands where there is no claim and no number.
const none = -1

// A claim is a clause that has to hold: one of the formula, or one that was learned.
type claim struct {
	literals []literal // at least two; the first two are watched
	spread   int       // of a learned one how many decisions it hung on, else 0
	from     int       // where another to watch is looked for first, so that a long one is not gone through over and over
}

// A watch is a claim that has to be looked at once a literal of it is gone; but not where another holds.
type watch struct {
	claim   int32
	another literal
}

// A search looks for truths under which all its claims hold. It decides, follows what comes of it, and learns from each clash.
type search struct {
	claims  []claim
	watches [][]watch // by literal
	worth   []int8    // by literal: -1 gone, 0 open, 1 holds
	trail   []literal // what came to hold, in order
	marks   []int     // by decision: its place in the trail
	next    int       // the first place in the trail that was not followed yet

	depth []int32   // by number: how many decisions there were when it was settled
	why   []int32   // by number: the claim that settled it, or none
	liked []literal // by number: what it was last

	queue queue
	notes notes
	pace  pace
}

// newSearch is a search for truths of f's numbers, of which those that are not 0 in known are known for good.
func newSearch(f [][]int, known []int) *search {
	n := len(known)
	s := &search{
		watches: make([][]watch, 2*n),
		worth:   make([]int8, 2*n),
		depth:   make([]int32, n),
		why:     make([]int32, n),
		liked:   make([]literal, n),
		queue:   newQueue(n),
		notes:   newNotes(n),
		pace:    newPace(),
	}
	for v, t := range known {
		s.worth[2*v], s.worth[2*v+1] = int8(t), int8(-t)
		s.liked[v] = literalOf(-v - 1)
	}
	for _, c := range f {
		s.take(c)
	}
	return s
}

// take makes a claim of what a clause still asks for: of two literals at least, since what follows from the others is known. Their numbers wait for a decision; no other number matters.
func (s *search) take(c []int) {
	c, always := clause.Normal(c)
	if always {
		return
	}
	l := make([]literal, 0, len(c))
	for _, x := range c {
		switch y := literalOf(x); s.worth[y] {
		case 0:
			l = append(l, y)
		case 1:
			return
		}
	}
	s.claim(l, 0)
	for _, x := range l {
		s.queue.add(x.number())
	}
}

// claim adds one of l, and answers its place.
func (s *search) claim(l []literal, spread int) int32 {
	k := int32(len(s.claims))
	s.claims = append(s.claims, claim{l, spread, 2})
	s.look(k)
	return k
}

// look has the k-th claim watched.
func (s *search) look(k int32) {
	l := s.claims[k].literals
	s.watches[l[0]] = append(s.watches[l[0]], watch{k, l[1]})
	s.watches[l[1]] = append(s.watches[l[1]], watch{k, l[0]})
}

// run answers Sat, Unsat or Unknown; it makes at most that many decisions.
func (s *search) run(budget int) int {
	for {
		if k := s.follow(); k != none {
			if len(s.marks) == 0 {
				return Unsat
			}
			s.turn(k)
			continue
		}
		v := s.pick()
		if v == none {
			return Sat
		}
		if budget == 0 {
			return Unknown
		}
		budget--
		s.decide(s.liked[v])
	}
}

// pick answers the first number that waits and is open, or none.
func (s *search) pick() int32 {
	for {
		v := s.queue.take()
		if v == none || s.worth[2*v] == 0 {
			return v
		}
	}
}

// decide makes l hold, to be taken back if nothing comes of it.
func (s *search) decide(l literal) {
	s.marks = append(s.marks, len(s.trail))
	s.hold(l, none)
}

// hold makes l hold, which is open; the k-th claim asks for it.
func (s *search) hold(l literal, k int32) {
	s.worth[l], s.worth[l.other()] = 1, -1
	v := l.number()
	s.depth[v], s.why[v] = int32(len(s.marks)), k
	s.trail = append(s.trail, l)
}

// takeBack opens again what came with the last decisions, the last first, so that just those many stand.
func (s *search) takeBack(decisions int) {
	if decisions == len(s.marks) {
		return
	}
	from := s.marks[decisions]
	for i := len(s.trail) - 1; i >= from; i-- {
		l := s.trail[i]
		s.worth[l], s.worth[l.other()] = 0, 0
		s.liked[l.number()] = l
		s.queue.add(l.number())
	}
	s.trail, s.marks, s.next = s.trail[:from], s.marks[:decisions], from
}

// truths answers what each number is; one that nothing asks for is false.
func (s *search) truths() []bool {
	t := make([]bool, len(s.why))
	for v := range t {
		t[v] = s.worth[2*v] == 1
	}
	return t
}
