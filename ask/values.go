package ask

import (
	"math/bits"
	"slices"

	"crossroads/api"
	"crossroads/blast"
	"crossroads/dpll"
	"crossroads/term"
)

// values answers the values that x can have where all terms of g are 1, rising, and true; false: they are more than most, or a question is Unknown: ErrFull.
func (q *question) values(g group, x term.T, most, budget int) ([]uint16, bool, api.Errno) {
	if l := q.digits(g.vars); q.countable(l, append(g.terms, x), bitsForValues) {
		r, ok := q.countValues(l, g.terms, x, most)
		return r, ok, api.OK
	}
	return q.askValues(g, x, most, budget)
}

// askValues has the solver say it.
func (q *question) askValues(g group, x term.T, most, budget int) ([]uint16, bool, api.Errno) {
	b := blast.New(q.arena)
	ones, e := rows(b, g.terms)
	if e != api.OK {
		return nil, false, e
	}
	row, e := b.Bits(x)
	if e != api.OK {
		return nil, false, e
	}
	r, ok := q.puzzle(b, ones, budget).values(row, most)
	return r, ok, api.OK
}

// A cube is a value that is possible, and all others that have the same in its fixed bits.
type cube struct{ value, fixed uint16 }

// split takes v, which is in c, out of it, with half of c, and answers that half.
func (c *cube) split(v uint16) cube {
	c.fixed |= 1 << uint(bits.Len16(c.value^v)-1)
	return cube{v, c.fixed}
}

// values answers those that the number can have whose bits have the literals of row, rising, and true; false: they are more than most, or a question is Unknown. A cube with another possible value is split between the two, so that each value is found once, and no question grows with how many there were.
func (p *puzzle) values(row []int, most int) ([]uint16, bool) {
	kind, truths := p.solve()
	if kind != dpll.Sat {
		return nil, kind == dpll.Unsat
	}
	l := []cube{{value: number(row, truths)}}
	for i := 0; i < len(l); {
		if len(l) > most {
			return nil, false
		}
		kind, v := p.other(row, l[i])
		switch kind {
		case dpll.Sat:
			l = append(l, l[i].split(v))
		case dpll.Unsat:
			i++
		default:
			return nil, false
		}
	}
	return rising(l), true
}

// other answers Sat, with a possible value of c other than its own, Unsat or Unknown.
func (p *puzzle) other(row []int, c cube) (int, uint16) {
	var more [][]int
	var differs []int
	for k, bit := range row {
		same := alike(bit, c.value, k)
		if c.fixed>>uint(k)&1 == 1 {
			more = append(more, []int{same})
		} else {
			differs = append(differs, -same)
		}
	}
	if len(differs) == 0 { // the solver would say so too, but not at once
		return dpll.Unsat, 0
	}
	kind, truths := p.solve(append(more, differs)...)
	if kind != dpll.Sat {
		return kind, 0
	}
	return kind, number(row, truths)
}

// rising answers the values of l, the least first.
func rising(l []cube) []uint16 {
	r := make([]uint16, len(l))
	for i, c := range l {
		r[i] = c.value
	}
	slices.Sort(r)
	return r
}
