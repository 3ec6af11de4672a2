// Package room makes lists that have spare room, and tells whether a list is as it was, that room included: for the tests of packages that are handed lists, and may neither change nor keep them.
package room

import "slices"

// List is c once more, with spare room in which other numbers stand.
func List(c []int) []int {
	return append(slices.Clone(c), 1, -1, 9)[:len(c)]
}

// Lists is f once more, and each list in it, with spare room in which other lists and numbers stand.
func Lists(f [][]int) [][]int {
	r := make([][]int, 0, len(f)+2)
	for _, c := range f {
		r = append(r, List(c))
	}
	return append(r, []int{2}, []int{-2})[:len(f)]
}

// Copy is f once more, as long and with as much room everywhere, the same in it.
func Copy(f [][]int) [][]int {
	r := make([][]int, cap(f))
	for i, c := range f[:cap(f)] {
		r[i] = slices.Clip(slices.Clone(c[:cap(c)]))[:len(c)]
	}
	return r[:len(f)]
}

// Same tells whether two lists of lists are as long and have as much room everywhere, with the same in it.
func Same(f, g [][]int) bool {
	if len(f) != len(g) {
		return false
	}
	return slices.EqualFunc(f[:cap(f)], g[:cap(g)], func(c, d []int) bool {
		return len(c) == len(d) && slices.Equal(c[:cap(c)], d[:cap(d)])
	})
}

// Fill writes over all that stands in f's lists, and in their room.
func Fill(f ...[]int) {
	for _, c := range f[:cap(f)] {
		for i := range c[:cap(c)] {
			c[:cap(c)][i] = 4
		}
	}
}
