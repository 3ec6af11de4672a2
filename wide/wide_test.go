package wide

import (
	"math"
	"testing"

	"crossroads/api"
)

// widths are those that may be.
var widths = []int{1, 8, 16}

// wrongWidths may not be; some would be 1, 8 or 16 if their high bits or their sign were lost.
var wrongWidths = []int{
	math.MinInt, math.MinInt + 8, -256 + 8, -16, -8, -1, 0, 2, 3, 4, 5, 6, 7, 9, 10, 11, 12, 13, 14, 15, 17, 24, 31, 32, 33, 63, 64, 65,
	256 + 1, 256 + 8, 256 + 16, 1<<16 + 8, 1<<32 + 1, 1<<32 + 8, 1<<32 + 16, math.MaxInt,
}

// operators are those that Do knows.
var operators = []int{
	api.Not, api.And, api.Or, api.Xor, api.Add, api.Sub, api.Mul, api.Div, api.Mod, api.Shl, api.Shr, api.Eq, api.Lt,
}

// wrongOperators are none of those; some would be one if their high bits or their sign were lost.
var wrongOperators = []int{
	math.MinInt, math.MinInt + api.Add, -256 + api.Add, -api.Add, -api.Not, -1, 0, api.Const, api.Var, api.Ite, api.Ext, api.Cut, api.Cut + 1, 32,
	256 + api.Not, 256 + api.Add, 1<<16 + api.Eq, 1<<32 + api.Not, 1<<32 + api.Add, math.MaxInt,
}

// edges are numbers about the ends of each width, and about what a width can be shifted by.
func edges() []uint16 {
	l := []uint16{0, 1, 2, 3, 5, 6, 7, 8, 9, 10, 14, 15, 16, 17, 18, 31, 32, 33, 0x55, 0x5555, 0xaa, 0xaaaa, 300, 12345, 40000}
	for i := range 16 {
		p := uint16(1) << i
		l = append(l, p-1, p, p+1, ^p)
	}
	return append(l, 0xfffe, 0xffff)
}

// lowest is n's lowest w bits, reckoned without a shift or a mask.
func lowest(w, n int) int {
	m := power(w)
	return (n%m + m) % m
}

func power(n int) int {
	p := 1
	for range n {
		p *= 2
	}
	return p
}

func truth(b bool) int {
	if b {
		return 1
	}
	return 0
}

// byBits makes a number of w bits of those that f makes of a's and b's.
func byBits(w, a, b int, f func(x, y int) bool) int {
	n := 0
	for i := range w {
		n += truth(f(a/power(i)%2, b/power(i)%2)) * power(i)
	}
	return n
}

// wanted says what the chapter says of op, of whole numbers as they are in arithmetic.
func wanted(op, w, a, b int) int {
	a, b = lowest(w, a), lowest(w, b)
	switch op {
	case api.Not:
		return power(w) - 1 - a
	case api.And:
		return byBits(w, a, b, func(x, y int) bool { return x+y == 2 })
	case api.Or:
		return byBits(w, a, b, func(x, y int) bool { return x+y > 0 })
	case api.Xor:
		return byBits(w, a, b, func(x, y int) bool { return x != y })
	case api.Add:
		return lowest(w, a+b)
	case api.Sub:
		return lowest(w, a-b)
	case api.Mul:
		return lowest(w, a*b)
	case api.Eq:
		return truth(a == b)
	case api.Lt:
		return truth(a < b)
	}
	return wantedOfTwo(op, w, a, b)
}

func wantedOfTwo(op, w, a, b int) int {
	switch op {
	case api.Div:
		if b == 0 {
			return power(w) - 1
		}
		return a / b
	case api.Mod:
		if b == 0 {
			return a
		}
		return a - a/b*b
	}
	if b >= w {
		return 0
	}
	if op == api.Shl {
		return lowest(w, a*power(b))
	}
	return a / power(b)
}

// answers fails the test where Do does not answer v and e.
func answers(t *testing.T, op, w int, a, b, v uint16, e api.Errno) {
	t.Helper()
	if x, f := Do(op, w, a, b); x != v || f != e {
		t.Errorf("Do(%d, %d, %d, %d) = %d, %d; want %d, %d", op, w, a, b, x, int(f), v, int(e))
	}
}

// P1.1

func TestMay(t *testing.T) {
	for _, w := range widths {
		if !May(w) {
			t.Errorf("May(%d) = false", w)
		}
	}
	for _, w := range wrongWidths {
		if May(w) {
			t.Errorf("May(%d) = true", w)
		}
	}
}

func TestMask(t *testing.T) {
	for w, want := range map[int]uint16{1: 1, 8: 0xff, 16: 0xffff} {
		if m := Mask(w); m != want {
			t.Errorf("Mask(%d) = %d, want %d", w, m, want)
		}
	}
	for _, w := range wrongWidths {
		if m := Mask(w); m != 0 {
			t.Errorf("Mask(%d) = %d, want 0", w, m)
		}
	}
}

func TestOfEveryNumberAboutTheWidths(t *testing.T) {
	for _, w := range widths {
		for n := -1 << 17; n <= 1<<17; n++ {
			if x := Of(w, n); int(x) != lowest(w, n) {
				t.Fatalf("Of(%d, %d) = %d, want %d", w, n, x, lowest(w, n))
			}
		}
	}
}

func TestOfFarNumbers(t *testing.T) {
	for _, c := range []struct {
		w, n int
		want uint16
	}{
		{1, math.MaxInt, 1}, {8, math.MaxInt, 0xff}, {16, math.MaxInt, 0xffff},
		{1, math.MinInt, 0}, {8, math.MinInt, 0}, {16, math.MinInt, 0},
		{16, math.MinInt + 0x8001, 0x8001}, {8, 1<<32 + 200, 200}, {16, -1<<32 - 2, 0xfffe},
	} {
		if x := Of(c.w, c.n); x != c.want {
			t.Errorf("Of(%d, %d) = %d, want %d", c.w, c.n, x, c.want)
		}
	}
}

func TestSignedEveryNumber(t *testing.T) {
	for _, w := range widths {
		for n := range 1 << 16 {
			want := lowest(w, n)
			if want >= power(w-1) { // the highest bit
				want -= power(w)
			}
			if x := Signed(w, uint16(n)); x != want {
				t.Fatalf("Signed(%d, %d) = %d, want %d", w, n, x, want)
			}
		}
	}
}

func TestSignedHighestBit(t *testing.T) {
	for _, c := range []struct {
		w    int
		a    uint16
		want int
	}{
		{1, 0, 0}, {1, 1, -1}, {1, 0xfffe, 0}, {1, 0xffff, -1},
		{8, 0x7f, 127}, {8, 0x80, -128}, {8, 0xff, -1}, {8, 0xff7f, 127}, {8, 0x8080, -128}, {8, 0x8000, 0},
		{16, 0x7fff, 32767}, {16, 0x8000, -32768}, {16, 0xffff, -1}, {16, 0x80, 128},
	} {
		if x := Signed(c.w, c.a); x != c.want {
			t.Errorf("Signed(%d, %d) = %d, want %d", c.w, c.a, x, c.want)
		}
	}
}

func TestOfAndSignedRefuseWidths(t *testing.T) {
	for _, w := range wrongWidths {
		for _, a := range edges() {
			if x := Of(w, int(a)); x != 0 {
				t.Errorf("Of(%d, %d) = %d, want 0", w, a, x)
			}
			if x := Signed(w, a); x != 0 {
				t.Errorf("Signed(%d, %d) = %d, want 0", w, a, x)
			}
		}
	}
}

// P1.2

// TestDoAgainstArithmetic goes through all numbers of 8 bits, and about the edges of the others; the edges have bits above the lesser widths.
func TestDoAgainstArithmetic(t *testing.T) {
	for _, op := range operators {
		for a := range 256 {
			for b := range 256 {
				answers(t, op, 8, uint16(a), uint16(b), uint16(wanted(op, 8, a, b)), api.OK)
			}
		}
		for _, w := range widths {
			for _, a := range edges() {
				for _, b := range edges() {
					answers(t, op, w, a, b, uint16(wanted(op, w, int(a), int(b))), api.OK)
				}
			}
		}
	}
}

func TestDoOneBit(t *testing.T) {
	// For each operator what it makes of 0 and 0, 0 and 1, 1 and 0, 1 and 1.
	for op, want := range map[int][4]uint16{
		api.Not: {1, 1, 0, 0}, api.And: {0, 0, 0, 1}, api.Or: {0, 1, 1, 1}, api.Xor: {0, 1, 1, 0},
		api.Add: {0, 1, 1, 0}, api.Sub: {0, 1, 1, 0}, api.Mul: {0, 0, 0, 1},
		api.Div: {1, 0, 1, 1}, api.Mod: {0, 0, 1, 0}, api.Shl: {0, 0, 1, 0}, api.Shr: {0, 0, 1, 0},
		api.Eq: {1, 0, 0, 1}, api.Lt: {0, 1, 0, 0},
	} {
		for i, v := range want {
			answers(t, op, 1, uint16(i/2), uint16(i%2), v, api.OK)
		}
	}
}

func TestDoOrdinary(t *testing.T) {
	for _, c := range []struct {
		op, w   int
		a, b, v uint16
	}{
		{api.Sub, 8, 0, 1, 255}, {api.Sub, 16, 0, 1, 0xffff}, {api.Add, 8, 200, 100, 44}, {api.Add, 16, 0xffff, 2, 1},
		{api.Mul, 8, 16, 17, 16}, {api.Mul, 16, 300, 300, 24464}, {api.Not, 16, 0x00ff, 7, 0xff00}, {api.Not, 8, 0, 7, 0xff},
		{api.Div, 8, 200, 7, 28}, {api.Mod, 8, 200, 7, 4}, {api.Div, 16, 0xffff, 2, 0x7fff}, {api.Mod, 16, 0xffff, 10, 5},
		{api.Lt, 8, 0x7f, 0x80, 1}, {api.Lt, 16, 0x8000, 0x7fff, 0}, {api.Lt, 16, 3, 3, 0}, {api.Eq, 16, 3, 3, 1},
	} {
		answers(t, c.op, c.w, c.a, c.b, c.v, api.OK)
	}
}

func TestDoByNothing(t *testing.T) {
	for _, w := range widths {
		for _, a := range edges() {
			answers(t, api.Div, w, a, 0, Mask(w), api.OK)
			answers(t, api.Mod, w, a, 0, a&Mask(w), api.OK)
		}
	}
	// Nothing but bits above the width is nothing as well.
	answers(t, api.Div, 8, 9, 256, 255, api.OK)
	answers(t, api.Mod, 8, 0x109, 0xff00, 9, api.OK)
	answers(t, api.Div, 1, 0, 2, 1, api.OK)
	answers(t, api.Mod, 1, 3, 2, 1, api.OK)
}

func TestDoShifts(t *testing.T) {
	for _, w := range widths {
		most := int(Mask(w))
		for n := w; n <= most; n++ { // the width, and more
			answers(t, api.Shl, w, 0xffff, uint16(n), 0, api.OK)
			answers(t, api.Shr, w, 0xffff, uint16(n), 0, api.OK)
		}
	}
	answers(t, api.Shl, 8, 1, 7, 0x80, api.OK)
	answers(t, api.Shl, 8, 3, 7, 0x80, api.OK)
	answers(t, api.Shr, 8, 0x80, 7, 1, api.OK) // noughts come in, whatever the highest bit
	answers(t, api.Shl, 16, 1, 15, 0x8000, api.OK)
	answers(t, api.Shr, 16, 0x8000, 15, 1, api.OK)
	answers(t, api.Shr, 8, 0xff00, 1, 0, api.OK) // bits above the width don't come down
	answers(t, api.Shl, 8, 1, 0x101, 2, api.OK)  // nor do they count
	answers(t, api.Shr, 8, 4, 0xff01, 2, api.OK)
	answers(t, api.Shl, 1, 1, 2, 1, api.OK)
	answers(t, api.Shr, 1, 1, 0xfffe, 1, api.OK)
}

func TestDoBitsAboveTheWidth(t *testing.T) {
	for _, op := range operators {
		for _, w := range []int{1, 8} {
			above := ^Mask(w)
			for _, a := range edges() {
				for _, b := range edges() {
					want, e := Do(op, w, a&^above, b&^above)
					answers(t, op, w, a|above, b|above, want, e)
					answers(t, op, w, a, b, want, e)
				}
			}
		}
	}
}

func TestDoNotHasNoSecond(t *testing.T) {
	for _, w := range widths {
		for _, b := range edges() {
			answers(t, api.Not, w, 0x5555, b, 0xaaaa&Mask(w), api.OK)
		}
	}
}

func TestDoRefuses(t *testing.T) {
	for _, w := range wrongWidths {
		for _, op := range operators {
			answers(t, op, w, 0xffff, 3, 0, api.ErrWidth)
			answers(t, op, w, 5, 0, 0, api.ErrWidth)
		}
		for _, op := range wrongOperators { // the width is named first
			answers(t, op, w, 0xffff, 3, 0, api.ErrWidth)
		}
	}
	for _, w := range widths {
		for _, op := range wrongOperators {
			answers(t, op, w, 0xffff, 3, 0, api.ErrOp)
			answers(t, op, w, 5, 0, 0, api.ErrOp)
		}
	}
}

func TestOut(t *testing.T) {
	for _, w := range widths {
		for _, op := range operators {
			want := w
			if op == api.Eq || op == api.Lt {
				want = 1
			}
			if o := Out(op, w); o != want {
				t.Errorf("Out(%d, %d) = %d, want %d", op, w, o, want)
			}
		}
		for _, op := range wrongOperators {
			if o := Out(op, w); o != 0 {
				t.Errorf("Out(%d, %d) = %d, want 0", op, w, o)
			}
		}
	}
	for _, w := range wrongWidths {
		for _, op := range append(operators[:len(operators):len(operators)], wrongOperators...) {
			if o := Out(op, w); o != 0 {
				t.Errorf("Out(%d, %d) = %d, want 0", op, w, o)
			}
		}
	}
}

// TestOutHoldsWhatDoAnswers: what comes has no bit above the width that Out tells.
func TestOutHoldsWhatDoAnswers(t *testing.T) {
	for _, op := range operators {
		for _, w := range widths {
			for _, a := range edges() {
				for _, b := range edges() {
					if x, _ := Do(op, w, a, b); x&^Mask(Out(op, w)) != 0 {
						t.Errorf("Do(%d, %d, %d, %d) = %d, above %d bits", op, w, a, b, x, Out(op, w))
					}
				}
			}
		}
	}
}
