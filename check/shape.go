package check

import (
	"slices"

	"crossroads/api"
	"crossroads/inst"
)

// misshapen answers the first instruction at which p may not run, whatever the stack's height, and why; 0 and OK, if there is none.
func misshapen(p api.Prog) (int, api.Errno) {
	switch {
	case len(p.L) == 0 || len(p.L) > api.MaxCode || len(p.Names) > api.MaxNames:
		return 0, api.ErrFull
	case slices.ContainsFunc(p.Names, func(s string) bool { return !isName(s) }):
		return 0, api.ErrName
	}
	for n := range p.L {
		if e := misplaced(p, n); e != api.OK {
			return n, e
		}
	}
	return 0, api.OK
}

// misplaced tells why instruction n may not stand where it does.
func misplaced(p api.Prog, n int) api.Errno {
	i := p.L[n]
	switch {
	case !inst.May(i):
		return api.ErrOp
	case lastName(i) >= len(p.Names):
		return api.ErrName
	case inst.Jumps(i.Op) && i.A >= len(p.L):
		return api.ErrJump
	case !inst.Ends(i.Op) && n == len(p.L)-1:
		return api.ErrEnd
	}
	return api.OK
}

// lastName answers the place of the name that i, which may be, speaks of, of two the later; -1, if it speaks of none.
func lastName(i api.Inst) int {
	switch i.Op {
	case api.IOpen, api.IUnlink, api.IMkdir, api.IRmdir, api.IList:
		return i.A
	case api.IRename:
		return max(i.A/api.MaxNames, i.A%api.MaxNames)
	}
	return -1
}
