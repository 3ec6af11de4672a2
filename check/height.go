package check

import (
	"math/bits"

	"crossroads/api"
	"crossroads/inst"
)

// A step is what an instruction takes from the stack and gives to it, and where a run may go on behind it.
type step struct {
	takes, gives int
	next         []int
}

// stepsOf answers the steps of instructions that are well shaped.
func stepsOf(l []api.Inst) []step {
	steps := make([]step, len(l))
	for n, i := range l {
		s := step{takes: inst.Takes(i.Op), gives: inst.Gives(i.Op)}
		if inst.Jumps(i.Op) {
			s.next = append(s.next, i.A)
		}
		if !inst.Ends(i.Op) {
			s.next = append(s.next, n+1)
		}
		steps[n] = s
	}
	return steps
}

// heights are heights of the stack: bit h is set where h is among them.
type heights uint32

const (
	empty heights = 1                       // the stack's height at a run's start, alone
	all           = 1<<(api.MaxStack+1) - 1 // from 0 to MaxStack
)

// behind answers the heights behind s where those ahead of it are h: of those alone from which it can be done.
func (h heights) behind(s step) heights {
	return h >> s.takes << s.gives & all
}

// fit tells whether the instruction of s, reached with h, is reached with no more than one height, and can be done from that.
func (h heights) fit(s step) bool {
	return h == 0 || bits.OnesCount32(uint32(h)) == 1 && h.behind(s) != 0
}

// highest answers the highest of h, -1 if there is none.
func (h heights) highest() int {
	return bits.Len32(uint32(h)) - 1
}

// goRound answers all heights with which each instruction can be reached. All of them go on, so that the answer does not hang on the order in which they are found.
func goRound(steps []step) []heights {
	reached := make([]heights, len(steps))
	reached[0] = empty
	for changed := true; changed; {
		changed = false
		for n, s := range steps {
			for _, to := range s.next {
				more := reached[to] | reached[n].behind(s)
				changed = changed || more != reached[to]
				reached[to] = more
			}
		}
	}
	return reached
}
