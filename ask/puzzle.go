package ask

import (
	"crossroads/api"
	"crossroads/blast"
	"crossroads/dpll"
	"crossroads/term"
)

// A puzzle is a formula for the solver: it holds where some terms are 1.
type puzzle struct {
	count   int
	clauses [][]int
	budget  int // each time that it is solved
}

// ask answers Sat, if all terms of g can be 1, with such numbers in env; Unsat or Unknown: ErrFull.
func (q *question) ask(g group, budget int) (int, api.Errno) {
	b := blast.New(q.arena)
	ones, e := rows(b, g.terms)
	if e != api.OK {
		return 0, e
	}
	kind, truths := q.puzzle(b, ones, budget).solve()
	if kind == dpll.Sat {
		for _, id := range g.vars.list() {
			q.env[id] = number(varRow(b, id), truths)
		}
	}
	return kind, api.OK
}

// rows answers the literals of each term's bits: ErrFull.
func rows(b *blast.Blast, l []term.T) ([][]int, api.Errno) {
	var r [][]int
	for _, x := range l {
		row, e := b.Bits(x)
		if e != api.OK {
			return nil, e
		}
		r = append(r, row)
	}
	return r, api.OK
}

// varRow answers the literals of a Var's bits; none, if it stands in nothing that b was asked for.
func varRow(b *blast.Blast, id int) []int {
	var r []int
	for {
		bit, ok := b.Bit(id, len(r))
		if !ok {
			return r
		}
		r = append(r, bit)
	}
}

// puzzle is the puzzle of the terms whose one bit has the literals ones: each of these rows is the clause that says that it is 1. What is settled is said bit by bit.
func (q *question) puzzle(b *blast.Blast, ones [][]int, budget int) *puzzle {
	count, clauses := b.Formula()
	clauses = append(clauses, ones...)
	for _, id := range q.settled.list() {
		for k, bit := range varRow(b, id) {
			clauses = append(clauses, []int{alike(bit, q.env[id], k)})
		}
	}
	return &puzzle{count, clauses, budget}
}

// solve answers Sat, with a truth for each variable, Unsat or Unknown of the puzzle with some clauses more.
func (p *puzzle) solve(more ...[]int) (int, []bool) {
	kind, truths, _ := dpll.Solve(p.count, append(p.clauses, more...), p.budget)
	return kind, truths
}

// alike answers the literal that holds where a bit, whose literal is handed in, is the k-th of v.
func alike(bit int, v uint16, k int) int {
	if v>>uint(k)&1 == 0 {
		return -bit
	}
	return bit
}

// number answers the number whose bits have the literals of row.
func number(row []int, truths []bool) uint16 {
	v := uint16(0)
	for k, bit := range row {
		if truths[max(bit, -bit)-1] == (bit > 0) {
			v |= 1 << uint(k)
		}
	}
	return v
}
