package ask

import (
	"slices"

	"crossroads/api"
	"crossroads/dpll"
	"crossroads/term"
)

// A question is whether terms can all be 1, with what is seen of it ahead.
type question struct {
	arena   *term.Arena
	env     []uint16 // MaxVars numbers; 0 of each Var that has none yet
	settled vars     // those whose number a term tells
	groups  []group  // of the terms on whose other Vars it hangs
}

// newQuestion is the question whether all of l can be 1; nil, if they can't, as is seen ahead.
func newQuestion(a *term.Arena, l []term.T) *question {
	q := &question{arena: a, env: make([]uint16, api.MaxVars)}
	l = parts(a, l)
	for _, x := range l {
		if id, v, ok := told(a, x); ok { // of two numbers for one Var either will do: the other term is 0 then
			q.settled, q.env[id] = q.settled.with(id), v
		}
	}
	for _, x := range l {
		s := q.open(x)
		if s == 0 && a.Eval(x, q.env) == 0 {
			return nil
		}
		if s != 0 {
			q.groups = joined(q.groups, group{s, []term.T{x}})
		}
	}
	return q
}

// parts answers what has to be 1 where all of l are, each once: of an And both its parts.
func parts(a *term.Arena, l []term.T) []term.T {
	var r []term.T
	seen, wait := map[term.T]struct{}{}, slices.Clone(l)
	for len(wait) > 0 {
		x := wait[len(wait)-1]
		wait = wait[:len(wait)-1]
		if _, ok := seen[x]; ok {
			continue
		}
		seen[x] = struct{}{}
		if n, _ := a.Node(x); n.Op == api.And {
			wait = append(wait, n.A, n.B)
		} else {
			r = append(r, x)
		}
	}
	return r
}

// told answers which Var has which number where x is 1, if x says just that.
func told(a *term.Arena, x term.T) (int, uint16, bool) {
	n, _ := a.Node(x)
	switch n.Op {
	case api.Var:
		return int(n.Val), 1, true
	case api.Not:
		id, ok := isVar(a, n.A)
		return id, 0, ok
	case api.Eq:
		if v, ok := a.Known(n.A); ok {
			id, ok := isVar(a, n.B)
			return id, v, ok
		}
		v, known := a.Known(n.B)
		id, ok := isVar(a, n.A)
		return id, v, ok && known
	}
	return 0, 0, false
}

// isVar answers the id of x, if it is a Var, or one with noughts ahead: what it is then held against may be too great for it, which shows when that is reckoned.
func isVar(a *term.Arena, x term.T) (int, bool) {
	n, _ := a.Node(x)
	for n.Op == api.Ext {
		n, _ = a.Node(n.A)
	}
	return int(n.Val), n.Op == api.Var
}

// open answers the Vars of x that are not settled.
func (q *question) open(x term.T) vars {
	var s vars
	for _, id := range q.arena.Vars(x) {
		s = s.with(id)
	}
	return s &^ q.settled
}

// around answers the group on which x hangs, which may have no terms, and the others.
func (q *question) around(x term.T) (group, []group) {
	l := joined(q.groups, group{vars: q.open(x)})
	return l[len(l)-1], l[:len(l)-1]
}

// possible answers Sat, if all terms of these groups can be 1, with such numbers in env; Unsat or Unknown: ErrFull.
func (q *question) possible(l []group, budget int) (int, api.Errno) {
	var rest group
	for _, g := range l {
		if digits := q.digits(g.vars); !q.countable(digits, g.terms, bitsForOne) {
			rest = group{rest.vars | g.vars, append(rest.terms, g.terms...)}
		} else if !q.count(digits, g.terms) {
			return dpll.Unsat, api.OK
		}
	}
	if rest.vars == 0 {
		return dpll.Sat, api.OK
	}
	return q.ask(rest, budget)
}
