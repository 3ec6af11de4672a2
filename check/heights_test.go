package check

import (
	"slices"
	"testing"

	"crossroads/api"
)

// P11.2. That a program that may not run has no heights is held wherever one is refused; that random ones have those of their runs, in stack_test.go.

func TestHeightsOfEach(t *testing.T) {
	high(t, with(code("push 7; push; dup; swap; add; not; set; get; load; argc; store; open; size; close; out; list; twin; assert; mkdir; exit"), "a"),
		0, 1, 2, 3, 3, 2, 2, 1, 2, 2, 3, 1, 2, 2, 2, 1, 2, 2, 1, 2)
	high(t, with(code("push; push; push; read; push; push; write; push; seek; push; trunc; argc; arg; rename; unlink; rmdir; exit"), "a"),
		0, 1, 2, 3, 1, 2, 3, 1, 2, 1, 2, 1, 2, 1, 2, 3, 4)
}

// TestHeightsToTheTop: from none to as many as there may be, and down again.
func TestHeightsToTheTop(t *testing.T) {
	var want []int
	for h := range 16 {
		want = append(want, h)
	}
	for h := 16; h >= 1; h-- {
		want = append(want, h)
	}
	high(t, code(repeat(16, "push", repeat(15, "pop", "exit"))), want...)
}

// TestHeightsOfZero: both of its ways are gone, each with one less.
func TestHeightsOfZero(t *testing.T) {
	high(t, code("push; zero 4; push; jump 5; push; exit"), 0, 1, 0, 1, 0, 1)
	high(t, code("push; push; zero 5; dup; jump 6; push; exit"), 0, 1, 2, 1, 2, 1, 2)
	high(t, code("push; zero 2; jump 2"), 0, 1, 0)
	high(t, code("push; push; push; zero 6; zero 7; exit; jump 4; jump 5"), 0, 1, 2, 3, 2, 1, 2, 1)
	high(t, code("push; zero 4; push; exit; jump 2"), 0, 1, 0, 1, 0)
}

// TestHeightsOfJump: what stands behind it is not reached from it, nor behind exit.
func TestHeightsOfJump(t *testing.T) {
	high(t, code("jump"), 0)
	high(t, code("jump 1; jump 1"), 0, 0)
	high(t, code("jump 2; push; push; exit"), 0, -1, 0, 1)
	high(t, code("push; jump 4; exit; exit; push; jump 2"), 0, 1, 2, -1, 1, 2)
	high(t, code("push; exit; push; exit"), 0, 1, -1, -1)
	high(t, code("push; exit; pop; jump"), 0, 1, -1, -1)
	high(t, code("push; exit; push; jump 1"), 0, 1, -1, -1)
	high(t, code("jump 2; jump 3; jump 4; push; jump; exit"), 0, -1, 0, -1, 0, -1)
}

func TestHeightsOfLoops(t *testing.T) {
	high(t, code("push 5; dup; zero 6; push 1; sub; jump 1; exit"), 0, 1, 2, 1, 2, 1, 1)
	high(t, code("push; pop; jump"), 0, 1, 0)
	high(t, code("push; push; zero 1; exit"), 0, 1, 2, 1)
	high(t, code("push; jump 4; dup; out; dup; zero 2; exit"), 0, 1, 1, 2, 1, 2, 1)
	high(t, code("push; dup; zero 7; dup; zero 1; dup; zero 3; exit"), 0, 1, 2, 1, 2, 1, 2, 1) // a loop in a loop
}

// TestHeightsBackward: what is reached last stands first, so that one round is not enough.
func TestHeightsBackward(t *testing.T) {
	p := code(repeat(api.MaxCode-1, "jump", "jump"))
	p.L[0].A = api.MaxCode - 1
	for n := range p.L[1:] {
		p.L[n+1].A = max(n, 1)
	}
	high(t, p, make([]int, api.MaxCode)...)

	p = code("jump 31; exit; " + repeat(15, "push; jump", "push; jump 1"))
	want := []int{0, 16}
	for n := 2; n < len(p.L); n += 2 {
		p.L[n+1].A = max(n-2, 1)
		h := (len(p.L) - 2 - n) / 2
		want = append(want, h, h+1)
	}
	p.L[0].A = len(p.L) - 2
	high(t, p, want...)
}

// TestNoHeights: of a program that may not run there are none, though of its first instructions they are known.
func TestNoHeights(t *testing.T) {
	for _, p := range refusals() {
		if l := Heights(p); len(l) != 0 {
			t.Errorf("Heights(%s) = %v", show(p), l)
		}
	}
}

// refusals are programs that may not run, one for each reason.
func refusals() []api.Prog {
	return []api.Prog{
		{}, {L: slices.Repeat(code("jump").L, 97)}, with(code("push; exit"), letters(9)...),
		with(code("push; exit"), "A"), {L: []api.Inst{{Op: api.IPush}, {Op: api.IPop, A: 1}, {Op: api.IJump}}},
		code("push; open; exit"), code("push; jump 3; exit"), code("push; pop"),
		code("push; pop; exit"), code(repeat(17, "push", "exit")), code("push; push; zero 4; push; exit"),
	}
}
