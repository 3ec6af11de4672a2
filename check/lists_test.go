package check

import (
	"slices"
	"testing"

	"crossroads/api"
)

// R4: what is handed in stays as it is, spare room too, and what is answered is new.

// some are programs that may run.
func some() []api.Prog {
	return []api.Prog{
		code("push; exit"), code("jump"), with(code("push; jump 4; list; out; rename 1; zero 2; exit"), "a", "b/c"),
		with(code(repeat(16, "push", repeat(15, "pop", "exit"))), letters(8)...),
	}
}

// spread is p with spare room in its lists, in which more stands.
func spread(p api.Prog) api.Prog {
	return api.Prog{
		L:     append(slices.Clone(p.L), api.Inst{Op: 99, A: -1}, api.Inst{Op: api.IExit})[:len(p.L)],
		Names: append(slices.Clone(p.Names), "SPARE", "room")[:len(p.Names)],
	}
}

// TestProgStays: and what stands in the spare room is not looked at.
func TestProgStays(t *testing.T) {
	for _, p := range append(some(), refusals()...) {
		q := spread(p)
		l, names := slices.Clone(q.L[:cap(q.L)]), slices.Clone(q.Names[:cap(q.Names)])
		n, e := Run(q)
		h := Heights(q)
		if !slices.Equal(q.L[:cap(q.L)], l) || !slices.Equal(q.Names[:cap(q.Names)], names) {
			t.Errorf("%s is %s now", show(p), show(q))
		}
		if m, f := Run(p); m != n || f != e || !slices.Equal(Heights(p), h) {
			t.Errorf("%s: %d, %d, %v; and with spare room %d, %d, %v", show(p), m, int(f), Heights(p), n, int(e), h)
		}
	}
}

// TestHeightsAreNew: what is written into an answer, its room too, shows in no other.
func TestHeightsAreNew(t *testing.T) {
	for _, p := range some() {
		one, other := Heights(p), Heights(p)
		want := slices.Clone(one)
		for i := range one[:cap(one)] {
			one[:cap(one)][i] = 77
		}
		if !slices.Equal(other, want) || !slices.Equal(Heights(p), want) {
			t.Errorf("Heights(%s) = %v, and then %v, %v", show(p), want, other, Heights(p))
		}
	}
}

// TestNothingIsKept: whatever was asked between, the same is answered again, and a program that is changed is asked anew.
func TestNothingIsKept(t *testing.T) {
	for _, p := range some() {
		want := Heights(p)
		for _, q := range append(some(), refusals()...) {
			Run(q)
			Heights(q)
		}
		high(t, p, want...)
	}
	p := with(code("push; open; exit"), "a")
	high(t, p, 0, 1, 2)
	p.Names[0] = "A"
	refused(t, p, 0, api.ErrName)
	p.Names[0] = "b"
	p.L[0].Op = api.IPop
	refused(t, p, 0, api.ErrStack)
	p.L[0] = api.Inst{Op: api.IJump, A: 1}
	high(t, p, 0, 0, 1)
}
