package check

import (
	"math/rand"
	"slices"
	"testing"

	"crossroads/api"
	"crossroads/inst"
)

// P11.1, the stack.

// raised is a program that has that height ahead of op, and behind it nothing that takes or gives.
func raised(height, op int) api.Prog {
	p := code(repeat(height, "push", "jump; jump"))
	p.L[height].Op, p.L[height].A = op, 0
	p.L[height+1].A = height + 1
	if inst.Jumps(op) {
		p.L[height].A = height + 1
	}
	return with(p, "a")
}

// TestEachHeight: each instruction at each height, of which some are too low for it and some too high.
func TestEachHeight(t *testing.T) {
	for op := first; op <= last; op++ {
		takes, gives := inst.Takes(op), inst.Gives(op)
		for height := range 17 {
			if p := raised(height, op); height < takes || height-takes+gives > 16 {
				refused(t, p, height, api.ErrStack)
			} else {
				runs(t, p)
			}
		}
	}
}

// TestTakesMore: less is there than is taken.
func TestTakesMore(t *testing.T) {
	refused(t, code("exit"), 0, api.ErrStack)
	refused(t, code("pop; push; exit"), 0, api.ErrStack)
	refused(t, code("dup; exit"), 0, api.ErrStack)
	refused(t, code("zero 1; jump 1"), 0, api.ErrStack)
	refused(t, code("push; swap; exit"), 1, api.ErrStack)
	refused(t, code("push; add; exit"), 1, api.ErrStack)
	refused(t, code("push; push; read; exit"), 2, api.ErrStack)
	refused(t, code("push; out; exit"), 2, api.ErrStack)
	refused(t, code("push; assert; exit"), 2, api.ErrStack)
	refused(t, code("push; zero 3; push; exit"), 3, api.ErrStack)
	runs(t, code("push; push; push; read; exit"))
	runs(t, code("push; dup; swap; add; not; exit"))
}

// TestLeavesMore: as many as there may be, and one more. What takes as many as it gives may stand there too.
func TestLeavesMore(t *testing.T) {
	runs(t, code(repeat(16, "push", "exit")))
	refused(t, code(repeat(17, "push", "exit")), 16, api.ErrStack)
	refused(t, code(repeat(40, "push", "exit")), 16, api.ErrStack)
	runs(t, code(repeat(16, "push", "swap; not; load; close; size; twin; exit")))
	refused(t, code(repeat(16, "push", "swap; dup; exit")), 17, api.ErrStack)
	refused(t, code(repeat(16, "push", "argc; exit")), 16, api.ErrStack)
	refused(t, with(code(repeat(16, "push", "open; exit")), "a"), 16, api.ErrStack)
	runs(t, code(repeat(16, "push", "read; dup; dup; exit")))
	refused(t, code(repeat(16, "push", "read; dup; dup; dup; exit")), 19, api.ErrStack)
}

// TestTwoHeights: one instruction is reached with two of them, though it could be done with each.
func TestTwoHeights(t *testing.T) {
	refused(t, code("push; push; zero 4; push; exit"), 4, api.ErrStack)                       // by a jump of zero, and from ahead with more
	refused(t, code("push; push; push; zero 5; pop; exit"), 5, api.ErrStack)                  // from ahead with less
	refused(t, code("push; push; zero 5; push; jump 5; exit"), 5, api.ErrStack)               // by a jump of zero, and by one of jump
	refused(t, code("push; push; zero 5; push; jump 6; jump 6; exit"), 6, api.ErrStack)       // by two of jump
	refused(t, code("push; push; push; push; zero 7; zero 7; jump 6; exit"), 7, api.ErrStack) // by two of zero
	refused(t, code("push; push; zero 5; push; push; exit"), 5, api.ErrStack)                 // more than one apart
	refused(t, code("push; jump 3; exit; push; zero 2; push; jump 2"), 2, api.ErrStack)       // ahead of those that lead to it
	runs(t, code("push; push; zero 5; push; pop; exit"))
}

// TestTwoHeightsAroundALoop: what comes back has more than what came first, or less.
func TestTwoHeightsAroundALoop(t *testing.T) {
	refused(t, code("push; jump"), 0, api.ErrStack)
	refused(t, code("push; push; jump 1"), 1, api.ErrStack)
	refused(t, code("push; push; push; pop; jump 3"), 3, api.ErrStack)
	refused(t, code("jump 2; exit; push; jump 2"), 2, api.ErrStack)
	refused(t, code("push; push; zero; exit"), 0, api.ErrStack)
	refused(t, code("push; push; push; zero 1; exit"), 1, api.ErrStack)
	refused(t, code("push; push; push; zero 3; exit"), 3, api.ErrStack)
	runs(t, code("push; push; zero 1; exit"))
	runs(t, code("push; push; pop; jump 1"))
	runs(t, code("jump"))
}

// TestBothWaysOfZero: each of them alone would be well.
func TestBothWaysOfZero(t *testing.T) {
	refused(t, code("push; zero 3; jump 2; exit"), 3, api.ErrStack)
	refused(t, code("push; zero 3; exit; jump 3"), 2, api.ErrStack)
	refused(t, code("push; push; zero 5; push; exit; zero 3; push; jump 3"), 3, api.ErrStack)
	runs(t, code("push; zero 3; jump 2; jump 3"))
	runs(t, code("push; zero 2; jump 2")) // both lead to one
}

// TestTheLeastIsTold: of several instructions, whichever of them is met first and whatever is wrong with it.
func TestTheLeastIsTold(t *testing.T) {
	refused(t, code("push; zero 4; exit; exit; exit"), 2, api.ErrStack)                                                    // 2 and 4 take too much
	refused(t, code("push; jump 4; exit; exit; zero 2; exit"), 2, api.ErrStack)                                            // 2 and 5 do
	refused(t, code("push; push; jump 5; pop; exit; zero 3; add; exit"), 4, api.ErrStack)                                  // 4 and 6 do, but 3 does not
	refused(t, code("push; zero 4; exit; exit; push; jump 4"), 2, api.ErrStack)                                            // 2 takes too much, 4 has two heights
	refused(t, code("push; push; zero 4; push; zero 6; push; exit"), 4, api.ErrStack)                                      // 4 and 6 have two heights
	refused(t, code("push; push; zero 4; push; pop; pop; pop; exit"), 4, api.ErrStack)                                     // 4 has, and 5 and 6 take too much then
	refused(t, code("push; zero 5; push; zero 5; exit; pop; exit"), 4, api.ErrStack)                                       // 4 and 5 take too much
	refused(t, code("push; push; zero 5; pop; jump 5; "+repeat(17, "push", "exit")), 5, api.ErrStack)                      // 5 has two heights, and some behind it leave too much
	refused(t, code("push; zero 22; jump 20; exit; "+repeat(16, "push", "exit; exit; jump 4")+"; exit"), 20, api.ErrStack) // 20 has 0 and 16
}

// TestAllHeightsGoOn: where one is reached with two heights, what it leads to is too, and may be ahead of it.
func TestAllHeightsGoOn(t *testing.T) {
	refused(t, code("jump 3; push; exit; push; zero 6; push; jump 1"), 1, api.ErrStack)
	refused(t, code("jump 3; jump 1; exit; push; zero 6; push; jump 1"), 1, api.ErrStack)
	refused(t, code("jump 4; jump 2; jump 1; exit; push; push; zero 8; pop; jump 2"), 1, api.ErrStack)
	refused(t, code("jump 3; push; jump 4; push; jump 1"), 1, api.ErrStack) // a loop that is not entered at its least
}

// TestNothingGoesOn: behind one that can't be done there is nothing, and the others are told.
func TestNothingGoesOn(t *testing.T) {
	refused(t, code("jump 3; pop; exit; pop; jump 1"), 3, api.ErrStack)
	refused(t, code("jump 3; push; exit; add; jump 1"), 3, api.ErrStack)
	refused(t, code("jump 3; exit; exit; "+repeat(17, "push", "jump 1")), 19, api.ErrStack)
	refused(t, code("jump 2; exit; zero 1; jump 1"), 2, api.ErrStack)
}

// TestWhatIsNotReached: no height is asked of it, and it leads nowhere.
func TestWhatIsNotReached(t *testing.T) {
	runs(t, code("push; exit; pop; pop; exit"))
	runs(t, code("push; exit; push; jump 2"))
	runs(t, code("push; exit; "+repeat(20, "push", "exit")))
	runs(t, code("jump 2; push; push; exit"))
	runs(t, code("push; jump 5; push; push; jump 5; exit"))
	runs(t, code("push; jump 4; push; zero 4; exit"))
	runs(t, code("jump 3; pop; exit; jump 4; jump 3"))
	runs(t, code("jump; push; zero; exit"))
}

// TestEachSmallProgram: all programs of few instructions of some kinds, held against runs of them step by step.
func TestEachSmallProgram(t *testing.T) {
	fine := 0
	var each func(p api.Prog, size int)
	each = func(p api.Prog, size int) {
		if len(p.L) == size {
			if inst.Ends(p.L[size-1].Op) && asWalked(t, p) {
				fine++
			}
			return
		}
		for _, op := range []int{api.IPush, api.IPop, api.IExit, api.IAdd} {
			each(api.Prog{L: append(slices.Clip(p.L), api.Inst{Op: op})}, size)
		}
		for a := range size {
			each(api.Prog{L: append(slices.Clip(p.L), api.Inst{Op: api.IJump, A: a})}, size)
			each(api.Prog{L: append(slices.Clip(p.L), api.Inst{Op: api.IZero, A: a})}, size)
		}
	}
	for size := 1; size <= 4; size++ {
		each(api.Prog{}, size)
	}
	if fine < 1000 {
		t.Errorf("%d may run", fine)
	}
}

// TestRandomPrograms: of any kinds and sizes.
func TestRandomPrograms(t *testing.T) {
	r := rand.New(rand.NewSource(11))
	fine := 0
	for range 200000 {
		p := with(api.Prog{}, "a", "b", "c", "d", "e", "f", "g", "h")
		size := 1 + r.Intn(14)
		for n := range size {
			i := api.Inst{Op: []int{api.IPush, api.IPush, api.IPush, api.IZero, api.IJump, api.IExit, first + r.Intn(last)}[r.Intn(7)]}
			if n == size-1 {
				i.Op = []int{api.IJump, api.IExit}[r.Intn(2)]
			}
			if inst.Jumps(i.Op) {
				i.A = r.Intn(size)
			}
			p.L = append(p.L, i)
		}
		if asWalked(t, p) {
			fine++
		}
	}
	if fine < 1000 {
		t.Errorf("%d may run", fine)
	}
}

// asWalked fails the test where p, which is well shaped, is held to be another than runs of it show, and tells whether it may run.
func asWalked(t *testing.T, p api.Prog) bool {
	t.Helper()
	l, bad := walked(p)
	if bad >= 0 {
		refused(t, p, bad, api.ErrStack)
	} else {
		high(t, p, l...)
	}
	return bad < 0
}
