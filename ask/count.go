package ask

import (
	"maps"
	"slices"

	"crossroads/api"
	"crossroads/fix"
	"crossroads/term"
)

// Up to how many bits all assignments are gone through: to find one, where the solver would have a formula to make first, and to find all values, where it would have a question for each of them; and how many nodes are reckoned for that at most.
const (
	bitsForOne    = 8
	bitsForValues = 16
	mostNodes     = 1 << 22
)

// A digit is a Var as one of an assignment's digits, which has as many values as so many bits.
type digit struct{ id, bits int }

// digits answers Vars as digits, the highest first. A Var that stands in a term is there, with one width: any other is refused.
func (q *question) digits(s vars) []digit {
	var l []digit
	for _, id := range s.list() {
		for _, w := range [3]int{1, 8, 16} {
			if _, e := q.arena.Var(w, id); e == api.OK {
				l = append(l, digit{id, w})
			}
		}
	}
	return l
}

// size answers how many bits l has in all.
func size(l []digit) int {
	n := 0
	for _, d := range l {
		n += d.bits
	}
	return n
}

// countable tells whether to go through all assignments of l, reckoning terms: they have no more than most bits, and it is not too much in all.
func (q *question) countable(l []digit, terms []term.T, most int) bool {
	n := size(l)
	if n > most {
		return false
	}
	left := mostNodes >> uint(n)
	for _, x := range terms {
		if left -= fix.Size(q.arena, x); left < 0 {
			return false
		}
	}
	return true
}

// put puts the n-th assignment of l into env.
func (q *question) put(l []digit, n int) {
	for _, d := range slices.Backward(l) {
		q.env[d.id] = uint16(n & (1<<uint(d.bits) - 1))
		n >>= uint(d.bits)
	}
}

// hold tells whether all terms are 1 under env.
func (q *question) hold(terms []term.T) bool {
	for _, x := range terms {
		if q.arena.Eval(x, q.env) == 0 {
			return false
		}
	}
	return true
}

// count puts the first assignment of l under which all terms are 1 into env; false: there is none.
func (q *question) count(l []digit, terms []term.T) bool {
	for n := range 1 << uint(size(l)) {
		if q.put(l, n); q.hold(terms) {
			return true
		}
	}
	return false
}

// countValues answers the values that x has under those assignments of l under which all terms are 1, rising, and true; false: they are more than most.
func (q *question) countValues(l []digit, terms []term.T, x term.T, most int) ([]uint16, bool) {
	seen := map[uint16]struct{}{}
	for n := range 1 << uint(size(l)) {
		if q.put(l, n); !q.hold(terms) {
			continue
		}
		seen[q.arena.Eval(x, q.env)] = struct{}{}
		if len(seen) > most {
			return nil, false
		}
	}
	return slices.Sorted(maps.Keys(seen)), true
}
