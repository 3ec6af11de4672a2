package blast

import (
	"cmp"
	"slices"

	"crossroads/api"
)

// A literal is a variable's number, or that less than 0 where it holds if the variable does not; or yes or no.
type literal int32

// What is known needs no variable.
const (
	yes literal = api.MaxLits + 1
	no          = -yes
)

// number answers which variable x is of.
func (x literal) number() literal {
	return max(x, -x)
}

// sorted is l once more, by number, of one number what is less than 0 first.
func sorted(l []literal) []literal {
	r := slices.Clone(l)
	slices.SortFunc(r, func(x, y literal) int {
		return cmp.Or(cmp.Compare(x.number(), y.number()), cmp.Compare(x, y))
	})
	return r
}

// numbers is l as whole numbers.
func numbers(l []literal) []int {
	r := make([]int, len(l))
	for i, x := range l {
		r[i] = int(x)
	}
	return r
}

// A row is a number's bits, the lowest first. It is never changed once it is made: a part of it may be another's row.
type row []literal

// digits answers the lowest w bits of v.
func digits(w int, v uint16) row {
	r := noughts(w)
	for i := range r {
		if v>>uint(i)&1 == 1 {
			r[i] = yes
		}
	}
	return r
}

// noughts answers w bits 0.
func noughts(w int) row {
	return slices.Repeat(row{no}, w)
}

// other answers a's bits the other way round.
func (a row) other() row {
	r := make(row, len(a))
	for i, x := range a {
		r[i] = -x
	}
	return r
}

// open answers how many of a's bits are not known to be 0.
func (a row) open() int {
	k := 0
	for _, x := range a {
		if x != no {
			k++
		}
	}
	return k
}
