package clause

import (
	"math"
	"math/rand"
	"slices"
	"testing"
)

// normal fails the test where Normal of c is not want and both.
func normal(t *testing.T, c, want []int, both bool) {
	t.Helper()
	if got, is := Normal(c); !slices.Equal(got, want) || is != both {
		t.Errorf("Normal(%v) = %v, %v; want %v, %v", c, got, is, want, both)
	}
}

func TestNormalOfTheExample(t *testing.T) {
	normal(t, []int{3, -1, 3}, []int{-1, 3}, false)
}

func TestNormalOfNothing(t *testing.T) {
	for _, c := range [][]int{nil, {}, make([]int, 0, 4), {0}, {math.MinInt}, {0, 0}, {math.MinInt, math.MinInt}, {math.MinInt, 0, 0, math.MinInt}} {
		normal(t, c, nil, false)
	}
}

func TestNormalLeavesOutWhatStandsTwice(t *testing.T) {
	normal(t, []int{5, 5}, []int{5}, false)
	normal(t, []int{-5, -5, -5}, []int{-5}, false)
	normal(t, []int{1, 2, 1, 2, 1}, []int{1, 2}, false)
	normal(t, []int{-2, 1, -2, 3, 3, 1, -2}, []int{1, -2, 3}, false)
}

// TestNormalIsByNumber: the sign does not count.
func TestNormalIsByNumber(t *testing.T) {
	normal(t, []int{4, -3, 2, -1}, []int{-1, 2, -3, 4}, false)
	normal(t, []int{-4, 3, -2, 1}, []int{1, -2, 3, -4}, false)
	normal(t, []int{-1, -2, -3}, []int{-1, -2, -3}, false)
	normal(t, []int{10, 9, -11, 100}, []int{9, 10, -11, 100}, false)
	normal(t, []int{math.MaxInt, -1, 1 - math.MaxInt, 1 << 32}, []int{-1, 1 << 32, 1 - math.MaxInt, math.MaxInt}, false)
	normal(t, []int{-math.MaxInt, math.MaxInt - 1}, []int{math.MaxInt - 1, -math.MaxInt}, false)
}

// TestOrderOfANumber: v stands ahead of -v, whichever comes first.
func TestOrderOfANumber(t *testing.T) {
	for _, v := range []int{1, 2, 300, math.MaxInt} {
		for _, c := range [][]int{{v, -v}, {-v, v}} {
			slices.SortFunc(c, byNumber)
			if !slices.Equal(c, []int{v, -v}) {
				t.Errorf("order %v", c)
			}
		}
	}
	c := []int{-3, 2, -2, 3, -1, 1}
	slices.SortFunc(c, byNumber)
	if !slices.Equal(c, []int{1, -1, 2, -2, 3, -3}) {
		t.Errorf("order %v", c)
	}
}

func TestNormalOfANumberBothWays(t *testing.T) {
	for _, v := range []int{1, 2, 77, 1 << 33, math.MaxInt} {
		for _, c := range [][]int{{v, -v}, {-v, v}, {v, v, -v}, {-v, v, -v}, {v, 5, -v}, {-v, -9, 5, v}, {5, v, -v}, {0, -v, math.MinInt, v}, {1, 2, v, -v, 3}} {
			normal(t, c, nil, true)
		}
	}
	normal(t, []int{1, -1, 2, -2}, nil, true)
	normal(t, []int{2, -3, 4, 1, 3}, nil, true)
	for _, c := range [][]int{{1, -2}, {-1, 2}, {1, 2, 1}, {-1, -1}, {1, -3, 2}} { // numbers beside each other are two
		if _, both := Normal(c); both {
			t.Errorf("Normal(%v) has no number both ways", c)
		}
	}
}

// TestNormalLeavesOutWhatIsNoLiteral: 0 and the least int, of which neither is the other way round of itself.
func TestNormalLeavesOutWhatIsNoLiteral(t *testing.T) {
	normal(t, []int{0, 1}, []int{1}, false)
	normal(t, []int{-1, 0}, []int{-1}, false)
	normal(t, []int{math.MinInt, 1, math.MinInt}, []int{1}, false)
	normal(t, []int{2, math.MinInt, 0, -1, 0, 2}, []int{-1, 2}, false)
	normal(t, []int{math.MinInt, math.MaxInt}, []int{math.MaxInt}, false)
	normal(t, []int{math.MinInt, -math.MaxInt}, []int{-math.MaxInt}, false)
}

// plainly is what Normal says, by asking for each number up to that.
func plainly(c []int, to int) (r []int, both bool) {
	for v := 1; v <= to; v++ {
		is, not := slices.Contains(c, v), slices.Contains(c, -v)
		switch {
		case is && not:
			return nil, true
		case is:
			r = append(r, v)
		case not:
			r = append(r, -v)
		}
	}
	return r, false
}

func TestNormalOfAllSmallLists(t *testing.T) {
	lists(numbers, 5, func(c []int) {
		want, both := plainly(c, 3)
		normal(t, c, want, both)
	})
}

func TestNormalOfLongLists(t *testing.T) {
	r := rand.New(rand.NewSource(4))
	for range 300 {
		to := 1 + r.Intn(400)
		c := random(r, r.Intn(40), to)
		want, both := plainly(c, to)
		normal(t, c, want, both)
		for i, l := range c { // each number one way alone
			if l > 0 && l%2 == 0 || l < 0 && l%2 != 0 && l != math.MinInt {
				c[i] = -l
			}
		}
		want, both = plainly(c, to)
		if both {
			t.Fatalf("a number of %v stands both ways", c)
		}
		normal(t, c, want, false)
	}
}

// TestNormalOfAVeryLongList: of many more literals than there may be numbers in a formula.
func TestNormalOfAVeryLongList(t *testing.T) {
	const n = 200000
	var c, want []int
	for i := range 2 * n {
		v := (i*7919)%n + 1
		c = append(c, v*(1-v%2*2))
	}
	for v := 1; v <= n; v++ {
		want = append(want, v*(1-v%2*2))
	}
	if got, both := Normal(c); !slices.Equal(got, want) || both {
		t.Errorf("a long list: %d literals, %v", len(got), both)
	}
	if got, both := Normal(append(c, 123)); len(got) != 0 || !both {
		t.Errorf("a long list with a number both ways: %d literals, %v", len(got), both)
	}
}

func TestNormalChangesNothing(t *testing.T) {
	for _, c := range [][]int{nil, {}, {3, -1, 3}, {1, 2, 3}, {2, 0, 1, math.MinInt}, {-1, 1}, {4, 4, -4}, {0, 0}} {
		unchanged(t, "Normal", [][]int{c}, func(f [][]int) { Normal(f[0]) })
	}
}

// TestNormalIsNewMemory: even where it is what was handed in.
func TestNormalIsNewMemory(t *testing.T) {
	for _, c := range [][]int{{3, -1, 3}, {1, 2, 3}, {-1}, {1, 0}, {}, nil} {
		want, _ := plainly(c, 3)
		newMemory(t, "Normal", c, want, func(f [][]int) []int {
			r, _ := Normal(f[0])
			return r
		})
	}
}
