package dpll

import (
	"math"
	"math/bits"
	"math/rand"
	"slices"
	"testing"

	"crossroads/api"
)

// counts fails the test where Count of f is not want, or not what most says where that is less.
func counts(t *testing.T, n int, f [][]int, want int) {
	t.Helper()
	for _, most := range []int{0, 1, 2, want / 2, want - 1, want, want + 1, 2*want + 3, 1 << 24, 1 << 40, math.MaxInt} {
		if most < 0 {
			continue
		}
		if k, e := Count(n, f, most); k != min(want, most) || e != api.OK {
			t.Errorf("Count(%d, %v, %d) = %d, %v; want %d", n, show(f), most, k, e, min(want, most))
		}
	}
}

func TestCountOfTheExample(t *testing.T) {
	counts(t, 2, [][]int{{1, 2}, {-1}, {-2}}, 0)
	counts(t, 2, [][]int{{1, 2}, {-1}}, 1)
	counts(t, 2, [][]int{{1, 2}}, 3)
}

// TestCountOfNothing: without clauses all hold, with one without literals none.
func TestCountOfNothing(t *testing.T) {
	for n := range 25 {
		for _, f := range [][][]int{nil, {}} {
			counts(t, n, f, 1<<n)
		}
		for _, f := range [][][]int{{nil}, {{}}, {{}, nil}} {
			counts(t, n, f, 0)
		}
		if n > 0 {
			counts(t, n, [][]int{{1, -1}, {-n, n, n}}, 1<<n)
			counts(t, n, [][]int{{1, -1}, {}}, 0)
			counts(t, n, [][]int{{1}, {-1}}, 0)
		}
	}
}

// TestCountOfOneClause: of k literals it forbids one list of truths in 2^k; twice is once.
func TestCountOfOneClause(t *testing.T) {
	for n := 1; n <= 24; n++ {
		var c []int
		for k := 1; k <= n; k++ {
			c = append(c, k*(1-2*(k&1)))
			counts(t, n, [][]int{c}, 1<<n-1<<(n-k))
		}
		counts(t, n, [][]int{slices.Concat(c, c), c}, 1<<n-1)
		counts(t, n, [][]int{append(c, -c[0])}, 1<<n)
		counts(t, n, [][]int{{n}}, 1<<(n-1))
		counts(t, n, [][]int{{-n, -n}}, 1<<(n-1))
	}
}

func TestCountOfAllSmallFormulas(t *testing.T) {
	formulas(clauses(2, 2), 3, func(f [][]int) { counts(t, 2, f, models(2, f)) })
	formulas(clauses(3, 2), 2, func(f [][]int) { counts(t, 3, f, models(3, f)) })
	formulas(clauses(4, 4), 1, func(f [][]int) { counts(t, 4, f, models(4, f)) })
}

// TestCountOfSomeFormulas: also where there are numbers behind that stand in no clause.
func TestCountOfSomeFormulas(t *testing.T) {
	r := rand.New(rand.NewSource(11))
	for range 1500 {
		n := 1 + r.Intn(10)
		f := random(r, n, r.Intn(5*n), 1+r.Intn(3), 3+r.Intn(6))
		k := models(n, f)
		counts(t, n, f, k)
		more := r.Intn(25 - n)
		counts(t, n+more, f, k<<more)
	}
}

// TestCountOfNumbersThatStandNowhere: ahead of those that do, and between them.
func TestCountOfNumbersThatStandNowhere(t *testing.T) {
	counts(t, 24, [][]int{{24}}, 1<<23)
	counts(t, 24, [][]int{{-3, 9}, {9, 17}}, 5<<21)
	counts(t, 24, [][]int{{23, 24}, {-23, -24}}, 1<<23)
	counts(t, 24, [][]int{{7}, {-7, 8}, {-8, -21}}, 1<<21)
	counts(t, 20, [][]int{{7, -7}, {20, 1}}, 3<<18)
}

// TestCountInBlocks: those of clauses without a number in common are as many as their product, in any order.
func TestCountInBlocks(t *testing.T) {
	r := rand.New(rand.NewSource(12))
	want, f := 1, [][]int(nil)
	for v := 1; v < 24; v += 2 {
		f, want = append(f, []int{v, -v - 1}), 3*want
	}
	counts(t, 24, f, want)
	counts(t, 24, shuffled(r, f), want)
	want, f = 1, nil
	for v := 1; v < 24; v += 3 {
		f, want = append(f, []int{v, v + 1, v + 2}), 7*want
	}
	counts(t, 24, shuffled(r, f), want)
	f = nil
	for v := 1; v < 24; v += 12 {
		f = append(f, xor(true, v, v+1, v+2, v+3, v+4, v+5, v+6, v+7, v+8, v+9)...)
	}
	counts(t, 24, f, 1<<22)
}

// TestCountAlongARow: no two neighbours both false, of which there are as many as Fibonacci says; each asks for the next, of which there is one more than numbers.
func TestCountAlongARow(t *testing.T) {
	a, b := 2, 3
	var f [][]int
	for n := 2; n <= 24; n++ {
		f = append(f, []int{n, n - 1})
		counts(t, n, f, b)
		counts(t, n, links(n), n+1)
		a, b = b, a+b
	}
}

// TestShortest: of those that have the fewest literals the first.
func TestShortest(t *testing.T) {
	l := masksOf([][]int{{1, 2, 3}, {4, -5}, {-1, -2}, {1, 2, -7}})
	if m := shortest(l); m != (mask{1 << 3, 1 << 4}) {
		t.Errorf("the shortest is %v", m)
	}
	if m := shortest(append(l, mask{}, mask{plain: 1})); m != (mask{}) {
		t.Errorf("the shortest is %v", m)
	}
}

// TestCountByHowManyAreTrue: each clause asks for one of many, so that all but a few are true.
func TestCountByHowManyAreTrue(t *testing.T) {
	const n = 16
	for most := 1; most <= 3; most++ {
		var f [][]int
		want := 0
		for x := range 1 << n {
			ones := bits.OnesCount(uint(x))
			if ones <= most {
				want++
			}
			if ones != most+1 {
				continue
			}
			var c []int
			for v := range n {
				if x>>v&1 == 1 {
					c = append(c, v+1)
				}
			}
			f = append(f, c)
		}
		counts(t, n, f, want)
	}
}
