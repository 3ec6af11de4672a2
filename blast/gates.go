package blast

import "slices"

// all answers what holds where all of l do: 16 at most.
func (n *net) all(l ...literal) literal {
	var r []literal
	for _, x := range sorted(l) {
		last := yes
		if len(r) > 0 {
			last = r[len(r)-1]
		}
		switch x {
		case no, -last:
			return no
		case yes, last:
		default:
			r = append(r, x)
		}
	}
	switch len(r) {
	case 0:
		return yes
	case 1:
		return r[0]
	}
	return n.gate(allOf, r...)
}

// some answers what holds where one of l does.
func (n *net) some(l ...literal) literal {
	return -n.all(row(l).other()...)
}

// odd answers what holds where an odd number of l do: three at most.
func (n *net) odd(l ...literal) literal {
	var r []literal
	sign := literal(1)
	for _, x := range sorted(l) {
		if x < 0 {
			sign = -sign
		}
		x = x.number()
		switch {
		case x == yes:
			sign = -sign
		case slices.Contains(r, x):
			r = r[:len(r)-1] // it is the last one
		default:
			r = append(r, x)
		}
	}
	switch len(r) {
	case 0:
		return sign * no
	case 1:
		return sign * r[0]
	}
	return sign * n.gate(oddOf, r...)
}

// most answers what holds where two of the three do, or all.
func (n *net) most(x, y, z literal) literal {
	l := sorted([]literal{x, y, z})
	switch x, y, z = l[0], l[1], l[2]; {
	case z == yes:
		return n.some(x, y)
	case z == no:
		return n.all(x, y)
	case x == y:
		return x
	case x == -y:
		return z
	case y == z:
		return y
	case y == -z:
		return x
	case x < 0:
		return -n.gate(mostOf, -x, -y, -z)
	}
	return n.gate(mostOf, x, y, z)
}

// either answers what is x where c holds, else y.
func (n *net) either(c, x, y literal) literal {
	switch {
	case c == yes || x == y:
		return x
	case c == no:
		return y
	case c < 0:
		return n.either(-c, y, x)
	case x == yes || x == c:
		return n.some(c, y)
	case x == no || x == -c:
		return n.all(-c, y)
	case y == yes || y == -c:
		return n.some(-c, x)
	case y == no || y == c:
		return n.all(c, x)
	case x == -y:
		return n.odd(c, y)
	case x < 0:
		return -n.gate(eitherOf, c, -x, -y)
	}
	return n.gate(eitherOf, c, x, y)
}
