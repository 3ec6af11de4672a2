package clause

import (
	"math"
	"math/rand"
	"slices"
	"testing"

	"crossroads/api"
	"crossroads/room"
)

// numbers are what a list of these tests has: literals over three numbers, the two that are none, and the ends of int.
var numbers = []int{1, -1, 2, -2, 3, -3, 0, math.MinInt}

// wrongNumbers are no number of variables; some would be one if their high bits or their sign were lost.
var wrongNumbers = []int{math.MinInt, math.MinInt + 3, -1 << 32, -api.MaxLits, -3, -1, api.MaxLits + 1, api.MaxLits + 2, 2 * api.MaxLits, 1<<32 + 3, math.MaxInt}

// lists calls f with each list of up to that many of these numbers.
func lists(of []int, most int, f func(c []int)) {
	var next func(c []int)
	next = func(c []int) {
		f(c)
		if len(c) < most {
			for _, l := range of {
				next(append(slices.Clone(c), l))
			}
		}
	}
	next(nil)
}

// formulas calls f with each formula of up to two clauses of up to two of these numbers.
func formulas(of []int, f func(f [][]int)) {
	var clauses [][]int
	lists(of, 2, func(c []int) { clauses = append(clauses, c) })
	f(nil)
	for _, c := range clauses {
		f([][]int{c})
		for _, d := range clauses {
			f([][]int{c, d})
		}
	}
}

// random answers a list of n numbers, each of them v or -v, v from 1 to that, one in twenty no literal.
func random(r *rand.Rand, n, to int) []int {
	c := make([]int, n)
	for i := range c {
		c[i] = 1 + r.Intn(to)
		if r.Intn(2) == 0 {
			c[i] = -c[i]
		}
		if r.Intn(20) == 0 {
			c[i] = []int{0, math.MinInt}[r.Intn(2)]
		}
	}
	return c
}

// unchanged fails the test where call changes the formula that it is given, spare room included.
func unchanged(t *testing.T, what string, f [][]int, call func(f [][]int)) {
	t.Helper()
	g := room.Lists(f)
	was := room.Copy(g)
	call(g)
	if !room.Same(g, was) {
		t.Errorf("%s(%v) changed what it was given", what, f)
	}
}

// newMemory fails the test where what call answers to the formula of one clause c, which is want, shares memory with what it is given or with another answer.
func newMemory(t *testing.T, what string, c, want []int, call func(f [][]int) []int) {
	t.Helper()
	f := room.Lists([][]int{c})
	first, second := call(f), call(f)
	room.Fill(f...)
	if !slices.Equal(first, want) {
		t.Errorf("%s of %v shares memory with what was handed in", what, c)
	}
	room.Fill(first)
	if !slices.Equal(second, want) {
		t.Errorf("two answers to %s of %v share memory", what, c)
	}
	unchanged(t, what, [][]int{c}, func(f [][]int) { room.Fill(call(f)) })
}
