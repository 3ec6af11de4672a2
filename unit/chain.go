package unit

import (
	"slices"

	"crossroads/clause"
)

// A chain is what follows from what in a formula.
type chain struct {
	clauses [][]int // but for those that always hold
	left    []int   // by clause: how many of its literals are not gone
	with    [][]int // by a literal's place: the clauses that have it
	truth   []int   // by number, from 1 on: -1 false, 0 open, 1 true
	held    []int   // the literals that hold; where one is reached, the other way of its number is gone
}

// newChain is the chain of f where m, a truth for each number, is so from the first.
func newChain(f [][]int, m []int) *chain {
	c := &chain{with: make([][]int, 2*len(m)), truth: slices.Clone(m)}
	for i, t := range m {
		if t != 0 {
			c.held = append(c.held, (i+1)*t)
		}
	}
	for _, l := range f {
		c.add(l)
	}
	return c
}

// add takes in a clause of the formula.
func (c *chain) add(literals []int) {
	l, always := clause.Normal(literals)
	if always {
		return
	}
	for _, x := range l {
		c.with[place(x)] = append(c.with[place(x)], len(c.clauses))
	}
	c.clauses, c.left = append(c.clauses, l), append(c.left, len(l))
}

// follow makes all hold that follows; false: a clause can't hold any more.
func (c *chain) follow() bool {
	for i := range c.clauses {
		if !c.settle(i) {
			return false
		}
	}
	for k := 0; k < len(c.held); k++ { // held grows on the way
		for _, i := range c.with[place(-c.held[k])] {
			c.left[i]--
			if !c.settle(i) {
				return false
			}
		}
	}
	return true
}

// settle makes the last literal of the i-th clause hold, if all others are gone; false: it can't hold, and nor can the clause.
func (c *chain) settle(i int) bool {
	if c.left[i] > 1 {
		return true
	}
	for _, l := range c.clauses[i] {
		switch c.worth(l) {
		case 1:
			return true
		case 0:
			c.hold(l)
			return true
		}
	}
	return false
}

// worth answers whether l is false, open or true: -1, 0 or 1.
func (c *chain) worth(l int) int {
	if l < 0 {
		return -c.truth[-l-1]
	}
	return c.truth[l-1]
}

// hold makes l, which is open, true.
func (c *chain) hold(l int) {
	if l < 0 {
		c.truth[-l-1] = -1
	} else {
		c.truth[l-1] = 1
	}
	c.held = append(c.held, l)
}

// place answers where l stands in a list of all literals.
func place(l int) int {
	if l < 0 {
		return 2*(-l) - 1
	}
	return 2*l - 2
}
