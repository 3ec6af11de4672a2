package blast

import (
	"slices"
	"testing"
)

// truth answers whether x holds where variable v is true if way's bit v-1 is set.
func truth(x literal, way int) bool {
	switch x {
	case yes:
		return true
	case no:
		return false
	}
	return way>>(x.number()-1)&1 == 1 == (x > 0)
}

// gated fails the test where what f answers of l, literals of three variables that hang on nothing, does not hold just where want says, or takes more than one variable, or another one when it is asked once more.
func gated(t *testing.T, what string, l []literal, f func(n *net, l []literal) literal, want func(l []bool) bool) {
	t.Helper()
	n := newNet()
	n.inputs(3)
	x := f(&n, l)
	size := n.size()
	if y := f(&n, l); x != y || n.size() != size || size.gates > 4 {
		t.Fatalf("%s of %v = %d with %d variables, then %d with %d", what, l, x, size.gates, y, len(n.gates))
	}
	var clauses [][]int
	for _, c := range n.clauses {
		clauses = append(clauses, numbers(c))
	}
	var table uint8
	for way := range 8 {
		k := lanes{make([]uint64, 5), make([]uint64, 5)}
		for v := 1; v <= 3; v++ {
			if truth(literal(v), way) {
				k.hold(v, 1)
			} else {
				k.hold(-v, 1)
			}
		}
		var in []bool
		for _, y := range l {
			in = append(in, truth(y, way))
		}
		if want(in) {
			table |= 1 << way
		}
		clash := k.follow(clauses) & 1
		is := x == yes || x.number() != yes && k.holds(int(x))&1 == 1
		open := x.number() != yes && k.holds(int(x))&1 == k.holds(-int(x))&1
		if is != want(in) || open || clash != 0 {
			t.Errorf("%s of %v = %d, which is %v where %03b is; clash %d; %v", what, l, x, is, way, clash, clauses)
		}
	}
	if slices.Contains(simple, table) && size.gates > 3 {
		t.Errorf("%s of %v = %d: a variable for what needs none", what, l, x)
	}
}

// simple are what is known, and the three variables, each both ways: where they are so of all eight ways.
var simple = []uint8{0, 0xff, 0xaa, 0x55, 0xcc, 0x33, 0xf0, 0x0f}

// held answers how many of l hold.
func held(l []bool) (k int) {
	for _, is := range l {
		if is {
			k++
		}
	}
	return k
}

// TestGates: of all literals of three variables, and of what is known.
func TestGates(t *testing.T) {
	of := []literal{yes, no, 1, -1, 2, -2, 3, -3}
	var lists [][]literal
	for _, x := range of {
		lists = append(lists, []literal{x})
		for _, y := range of {
			lists = append(lists, []literal{x, y})
			for _, z := range of {
				lists = append(lists, []literal{x, y, z})
			}
		}
	}
	for _, l := range append(lists, nil) {
		gated(t, "all", l, func(n *net, l []literal) literal { return n.all(l...) }, func(l []bool) bool { return held(l) == len(l) })
		gated(t, "some", l, func(n *net, l []literal) literal { return n.some(l...) }, func(l []bool) bool { return held(l) > 0 })
		gated(t, "odd", l, func(n *net, l []literal) literal { return n.odd(l...) }, func(l []bool) bool { return held(l)%2 == 1 })
		if len(l) == 3 {
			gated(t, "most", l, func(n *net, l []literal) literal { return n.most(l[0], l[1], l[2]) }, func(l []bool) bool { return held(l) > 1 })
			gated(t, "either", l, func(n *net, l []literal) literal { return n.either(l[0], l[1], l[2]) }, func(l []bool) bool { return l[0] && l[1] || !l[0] && l[2] })
		}
	}
}

// TestGatesOfTheSame: in any order one variable.
func TestGatesOfTheSame(t *testing.T) {
	n := newNet()
	n.inputs(3)
	if n.all(1, -2, 3) != n.all(3, 1, -2) || n.all(-2, 3, 1, 1, yes) != n.all(1, -2, 3) || n.some(1, 2) != -n.all(-2, -1) {
		t.Error("all of the same are not one")
	}
	if n.odd(1, 2, 3) != n.odd(3, 2, 1) || n.odd(-1, 2, 3) != -n.odd(1, 3, 2) || n.odd(-1, -2) != n.odd(2, 1) {
		t.Error("an odd number of the same is not one")
	}
	if n.most(1, -2, 3) != n.most(3, 1, -2) || n.most(1, -2, 3) != -n.most(2, -1, -3) {
		t.Error("most of the same are not one")
	}
	if n.either(1, 2, 3) != n.either(-1, 3, 2) || n.either(1, -2, 3) != -n.either(1, 2, -3) {
		t.Error("either of the same is not one")
	}
	if n.either(1, 1, 2) != n.some(1, 2) || n.either(1, -1, 2) != n.all(-1, 2) || n.either(1, 2, -1) != n.some(-1, 2) || n.either(1, 2, 1) != n.all(1, 2) || n.either(1, 2, -2) != -n.odd(1, 2) {
		t.Error("either of what is picked by itself is not all, some or odd")
	}
}

// TestAlikeBothWays: what is picked follows at once where both ways are alike, though it is open which one is.
func TestAlikeBothWays(t *testing.T) {
	n := newNet()
	n.inputs(3)
	v := int(n.either(1, 2, 3))
	var clauses [][]int
	for _, c := range n.clauses {
		clauses = append(clauses, numbers(c))
	}
	for _, sign := range []int{1, -1} {
		k := lanes{make([]uint64, 5), make([]uint64, 5)}
		k.hold(sign*2, 1)
		k.hold(sign*3, 1)
		if clash := k.follow(clauses); clash&1 != 0 || k.holds(sign*v)&1 != 1 {
			t.Errorf("%d does not follow from %d and %d", sign*v, sign*2, sign*3)
		}
	}
}
