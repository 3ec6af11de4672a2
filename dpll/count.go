package dpll

import (
	"math/bits"

	"crossroads/clause"
)

// A mask is a clause over few numbers: v is bit v-1 of plain, if v stands in it, of turned, if -v does.
type mask struct{ plain, turned uint32 }

// masksOf are the clauses of f, but for those that always hold.
func masksOf(f [][]int) []mask {
	var l []mask
	for _, c := range f {
		c, always := clause.Normal(c)
		if always {
			continue
		}
		var m mask
		for _, x := range c {
			if x > 0 {
				m.plain |= 1 << (x - 1)
			} else {
				m.turned |= 1 << (-x - 1)
			}
		}
		l = append(l, m)
	}
	return l
}

// size answers how many literals m has.
func (m mask) size() int { return bits.OnesCount32(m.plain | m.turned) }

// lowest answers the bit of m's lowest number.
func (m mask) lowest() uint32 {
	all := m.plain | m.turned
	return all & -all
}

// A counter counts truths under which clauses hold, up to most.
type counter struct {
	sum, most int
	room      [mostNumbers][]mask // by how many numbers are open: the clauses that are left
}

// count counts those of open numbers, among which are l's: for each way of one number those of all others.
func (c *counter) count(l []mask, open int) {
	if c.sum == c.most {
		return
	}
	if len(l) == 0 {
		c.sum = min(c.most, c.sum+1<<open)
		return
	}
	m := shortest(l)
	if m.size() == 0 {
		return
	}
	v := m.lowest()
	for _, x := range [2]mask{{plain: v}, {turned: v}} {
		c.count(c.under(l, x, open-1), open-1)
	}
}

// shortest answers the first of l that has the fewest literals: what is settled soon splits into less.
func shortest(l []mask) mask {
	best := l[0]
	for _, m := range l {
		if m.size() < best.size() {
			best = m
		}
	}
	return best
}

// under answers what l still asks for where the literal x holds.
func (c *counter) under(l []mask, x mask, open int) []mask {
	r := c.room[open][:0]
	for _, m := range l {
		if m.plain&x.plain|m.turned&x.turned == 0 {
			r = append(r, mask{m.plain &^ x.turned, m.turned &^ x.plain})
		}
	}
	c.room[open] = r
	return r
}
