package dpll

// A literal is 2(v-1) for v and one more for -v, so that it is a place in a list of all.
type literal int32

// literalOf is l, a whole number with a sign, as a literal.
func literalOf(l int) literal {
	if l < 0 {
		return literal(2*(-l-1) + 1)
	}
	return literal(2 * (l - 1))
}

// other is the other way of l's number.
func (l literal) other() literal { return l ^ 1 }

// number is l's, from 0 on.
func (l literal) number() int32 { return int32(l >> 1) }
