package ask

import (
	"math/bits"

	"crossroads/api"
	"crossroads/term"
)

// vars is a set of Vars, each a bit.
type vars uint64

// A Var beyond the bits would be lost: with more than 64 of them this does not build.
const _ = uint(64 - api.MaxVars)

// with is s with the Var of that id.
func (s vars) with(id int) vars { return s | 1<<uint(id) }

// list answers the ids of s, rising.
func (s vars) list() []int {
	var l []int
	for ; s != 0; s &= s - 1 { // the lowest one goes
		l = append(l, bits.TrailingZeros64(uint64(s)))
	}
	return l
}

// A group is terms, and the open Vars on which they hang. No two groups share one, so that each can be asked on its own.
type group struct {
	vars  vars
	terms []term.T
}

// joined is l with g, which is the last, one with those of l that share a Var with it.
func joined(l []group, g group) []group {
	var r []group
	for _, o := range l {
		if o.vars&g.vars == 0 {
			r = append(r, o)
		} else {
			g = group{o.vars | g.vars, append(o.terms, g.terms...)}
		}
	}
	return append(r, g)
}
