package blast

import "math/bits"

// clause adds the clause of l, which it keeps.
func (n *net) clause(l ...literal) {
	n.clauses = append(n.clauses, l)
}

// tie adds the clauses by which v holds just where a gate of that kind says so.
func (n *net) tie(kind int32, v literal, in []literal) {
	switch kind {
	case allOf:
		n.tieAll(v, in)
	case oddOf:
		n.tieOdd(v, in)
	case mostOf:
		n.tieMost(v, in[0], in[1], in[2])
	case eitherOf:
		n.tieEither(v, in[0], in[1], in[2])
	}
}

func (n *net) tieAll(v literal, in []literal) {
	for _, x := range in {
		n.clause(-v, x)
	}
	n.clause(append(row{v}, row(in).other()...)...)
}

// tieOdd: that an odd number of v and the inputs hold is forbidden, way by way.
func (n *net) tieOdd(v literal, in []literal) {
	l := append(row{v}, in...)
	for way := range uint(1) << uint(len(l)) {
		if bits.OnesCount(way)%2 == 0 {
			continue
		}
		c := make(row, len(l))
		for i, x := range l {
			c[i] = x
			if way>>uint(i)&1 == 1 {
				c[i] = -x
			}
		}
		n.clause(c...)
	}
}

func (n *net) tieMost(v, a, b, c literal) {
	for _, p := range [3][2]literal{{a, b}, {a, c}, {b, c}} {
		n.clause(-v, p[0], p[1])
		n.clause(v, -p[0], -p[1])
	}
}

// tieEither: the last two follow from those ahead, but not at once: what c picks is settled where both ways are alike.
func (n *net) tieEither(v, c, x, y literal) {
	n.clause(-v, -c, x)
	n.clause(v, -c, -x)
	n.clause(-v, c, y)
	n.clause(v, c, -y)
	n.clause(-v, x, y)
	n.clause(v, -x, -y)
}
