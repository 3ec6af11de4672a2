package fix

import (
	"crossroads/api"
	"crossroads/term"
)

// joined answers what op, And or Or, makes of all of l, of none the Const of that number: ErrWidth, ErrArg, ErrFull.
func joined(a *term.Arena, op int, none uint16, l []term.T) (term.T, api.Errno) {
	if e := truths(a, l); e != api.OK {
		return 0, e
	}
	l = telling(a, none, l)
	if len(l) == 0 {
		return a.Const(1, none)
	}
	return whole(a, len(l)-1, func(b *term.Arena) (term.T, api.Errno) {
		x, e := l[0], api.OK
		for _, y := range l[1:] {
			if x, e = b.Two(op, x, y); e != api.OK {
				return 0, e
			}
		}
		return x, api.OK
	})
}

// truths tells whether each of l is a term of width 1. A width is told ahead of a term that is none, wherever they stand in l; of a nil arena all are none.
func truths(a *term.Arena, l []term.T) api.Errno {
	e := api.OK
	for _, x := range l {
		switch a.Width(x) {
		case 0:
			e = api.ErrArg
		case 1:
		default:
			return api.ErrWidth
		}
	}
	return e
}

// telling answers the terms of l on which it hangs what they make together: each once, none that is known not to matter, and one alone if that settles it.
func telling(a *term.Arena, none uint16, l []term.T) []term.T {
	var r []term.T
	seen := map[term.T]struct{}{}
	for _, x := range l {
		if v, ok := a.Known(x); ok && v != none {
			return []term.T{x}
		} else if ok {
			continue
		}
		if _, ok := seen[x]; !ok {
			seen[x] = struct{}{}
			r = append(r, x)
		}
	}
	return r
}
