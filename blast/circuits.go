package blast

import (
	"cmp"
	"slices"

	"crossroads/api"
)

// two answers the bits of what op, one of And to Lt, makes of two numbers of one width.
func (n *net) two(op int, a, b row) row {
	switch op {
	case api.And, api.Or, api.Xor:
		return n.bitwise(op, a, b)
	case api.Add:
		return n.sum(a, b, no)
	case api.Sub:
		return n.sum(a, b.other(), yes)
	case api.Mul:
		return n.product(a, b)
	case api.Div, api.Mod:
		return n.divided(op, a, b)
	case api.Shl, api.Shr:
		return n.shifted(op, a, b)
	case api.Eq:
		return row{n.alike(a, b)}
	}
	return row{-n.reaches(a, b)} // Lt
}

// bitwise answers And, Or or Xor.
func (n *net) bitwise(op int, a, b row) row {
	r := make(row, len(a))
	for i, x := range a {
		switch op {
		case api.And:
			r[i] = n.all(x, b[i])
		case api.Or:
			r[i] = n.some(x, b[i])
		default:
			r[i] = n.odd(x, b[i])
		}
	}
	return r
}

// choose answers a where c holds, else b.
func (n *net) choose(c literal, a, b row) row {
	r := make(row, len(a))
	for i, x := range a {
		r[i] = n.either(c, x, b[i])
	}
	return r
}

// kept answers a where c holds, else 0.
func (n *net) kept(c literal, a row) row {
	return n.choose(c, a, noughts(len(a)))
}

// sum answers a and b and carry added up; what the highest bits carry is lost.
func (n *net) sum(a, b row, carry literal) row {
	r := make(row, len(a))
	for i, x := range a {
		r[i] = n.odd(x, b[i], carry)
		if i+1 < len(a) {
			carry = n.most(x, b[i], carry)
		}
	}
	return r
}

// reaches answers what holds where a is b or more: what is carried where b is taken from a.
func (n *net) reaches(a, b row) literal {
	carry := yes
	for i, x := range a {
		carry = n.most(x, -b[i], carry)
	}
	return carry
}

// alike answers what holds where a is b.
func (n *net) alike(a, b row) literal {
	return n.all(n.bitwise(api.Xor, a, b).other()...)
}

// product adds up a once for each bit of b, as much higher as that is. Which is which does not hang on their order, so that it is one circuit both ways: the less bits b has, the less there is to add.
func (n *net) product(a, b row) row {
	if cmp.Or(cmp.Compare(a.open(), b.open()), slices.Compare(a, b)) < 0 {
		a, b = b, a
	}
	r := n.kept(b[0], a)
	for i := 1; i < len(b); i++ {
		more := n.kept(b[i], a[:len(a)-i])
		r = slices.Concat(r[:i], n.sum(r[i:], more, no))
	}
	return r
}

// divided answers Div or Mod: from a's highest bit on, b is taken from what is left of a's bits so far, where that reaches it. Where b is 0 that is so each time, and nothing is lost: all ones, and a.
func (n *net) divided(op int, a, b row) row {
	q := make(row, len(a))
	var left row
	for i := len(a) - 1; i >= 0; i-- {
		left = slices.Concat(row{a[i]}, left)
		low, high := b[:len(left)], b[len(left):]
		q[i] = n.all(append(high.other(), n.reaches(left, low))...)
		if i == 0 && op == api.Div {
			return q
		}
		left = n.choose(q[i], n.sum(left, low.other(), yes), left)
	}
	return left
}

// shifted answers Shl or Shr: a stage for each bit of the count that moves a by less than its width; where a higher one is set all is lost.
func (n *net) shifted(op int, a, count row) row {
	stage := 0
	for ; 1<<uint(stage) < len(a); stage++ {
		a = n.choose(count[stage], moved(op, a, 1<<uint(stage)), a)
	}
	return n.kept(-n.some(count[stage:]...), a)
}

// moved answers a shifted by that much, which is less than its width.
func moved(op int, a row, by int) row {
	if op == api.Shl {
		return slices.Concat(noughts(by), a[:len(a)-by])
	}
	return slices.Concat(a[by:], noughts(by))
}
