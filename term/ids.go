package term

import (
	"math/bits"

	"crossroads/api"
)

// idSet is a set of ids, each a bit: every term carries one, as a walk through its parts could be long.
type idSet uint64

// An id beyond the bits would be lost: with more than 64 of them this does not build.
const _ = uint(64 - api.MaxVars)

// only answers the set of just that id.
func only(id uint16) idSet {
	return 1 << id
}

// list answers the ids of s, rising.
func (s idSet) list() []int {
	var l []int
	for ; s != 0; s &= s - 1 { // the lowest one goes
		l = append(l, bits.TrailingZeros64(uint64(s)))
	}
	return l
}
