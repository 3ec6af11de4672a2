package fix

import (
	"crossroads/api"
	"crossroads/term"
)

// whole answers what f makes in a, of at most that many new nodes: all of it, or with ErrFull nothing.
func whole(a *term.Arena, most int, f func(*term.Arena) (term.T, api.Errno)) (term.T, api.Errno) {
	// An arena without any room refuses the first new node, and so stays as it is.
	if a.Len() < api.MaxTerms && most > api.MaxTerms-a.Len() {
		if e := tried(a, f); e != api.OK {
			return 0, e
		}
	}
	return f(a)
}

// tried tells how f fares in an arena like a: terms are numbered as they come, so they have the same numbers there.
func tried(a *term.Arena, f func(*term.Arena) (term.T, api.Errno)) api.Errno {
	l := make([]term.T, a.Len())
	for i := range l {
		l[i] = term.T(i + 1)
	}
	b := term.New()
	_, e := over(a, b, l, &given{})
	if e == api.OK {
		_, e = f(b)
	}
	return e
}
