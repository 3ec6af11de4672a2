package clause

import "cmp"

// How a number stands in a formula: as v, as -v, or both.
const (
	plain = 1 << iota
	turned
)

// number answers v of v and of -v; of 0 and of the least int, which are no literals, a number below 1.
func number(l int) int {
	if l < 0 {
		return -l // the least int is its own
	}
	return l
}

// literals answers those of c, in new memory.
func literals(c []int) []int {
	var r []int
	for _, l := range c {
		if number(l) >= 1 {
			r = append(r, l)
		}
	}
	return r
}

// byNumber orders literals by their numbers, v ahead of -v.
func byNumber(k, l int) int {
	return cmp.Or(cmp.Compare(number(k), number(l)), cmp.Compare(l, k))
}

// holds tells whether l does under m.
func holds(l int, m []bool) bool {
	v := number(l)
	if v < 1 {
		return false
	}
	truth := v <= len(m) && m[v-1]
	return truth == (l > 0)
}

// signs answers how each number from 0 to n stands in f, all of whose numbers are among them.
func signs(n int, f [][]int) []int {
	s := make([]int, n+1)
	for _, c := range f {
		for _, l := range c {
			if l > 0 {
				s[l] |= plain
			} else {
				s[-l] |= turned
			}
		}
	}
	return s
}
