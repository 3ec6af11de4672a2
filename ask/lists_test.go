package ask

import (
	"slices"
	"testing"

	"crossroads/api"
	"crossroads/dpll"
	"crossroads/term"
)

// TestListsStay: a list that is handed in is not changed, nor its spare room, nor is it kept.
func TestListsStay(t *testing.T) {
	k := start(t)
	b, x, u, v := k.id(1, 0), k.id(8, 1), k.id(16, 2), k.id(16, 3)
	for _, l := range [][]term.T{
		nil, {b}, {b, b, k.two(api.And, b, k.less(x, 9))}, {k.less(x, 4), k.not(b), k.is(x, 3)}, {k.is(k.two(api.Add, u, v), 9), k.is(v, 4), k.two(api.Or, b, k.less(x, 1))}, {b, k.not(b)}, {k.two(api.Lt, u, v), k.two(api.Lt, v, u)}, {b, x}, {b, 0},
	} {
		given := append(slices.Clone(l), b, 0, 99, -1, x)[:len(l)]
		before := slices.Clone(given[:cap(given)])
		kind, env, e := Can(k.Arena, given, endless)
		r, ok, g := Values(k.Arena, given, x, 256, endless)
		r2, ok2, g2 := Values(k.Arena, given, k.two(api.Xor, u, v), 9, endless)
		if !slices.Equal(given[:cap(given)], before) {
			t.Fatalf("%v was handed in, and is %v", before, given[:cap(given)])
		}
		for i := range given[:cap(given)] {
			given[:cap(given)][i] = k.num(1, 0)
		}
		kind3, env3, e3 := Can(k.Arena, l, endless)
		r3, ok3, g3 := Values(k.Arena, l, x, 256, endless)
		r4, ok4, g4 := Values(k.Arena, l, k.two(api.Xor, u, v), 9, endless)
		if kind != kind3 || e != e3 || ok != ok3 || g != g3 || ok2 != ok4 || g2 != g4 || !slices.Equal(env, env3) || !slices.Equal(r, r3) || !slices.Equal(r2, r4) {
			t.Fatalf("once more, %v is answered another way", l)
		}
	}
}

// TestListsAreNew: whatever is written into an answer, its spare room too, the next one is as it would be.
func TestListsAreNew(t *testing.T) {
	k := start(t)
	b, x, u, v := k.id(1, 0), k.id(8, 1), k.id(16, 2), k.id(16, 3)
	fill := func(l []uint16) {
		for i := range l[:cap(l)] {
			l[:cap(l)][i] = 0x7777
		}
	}
	for _, l := range [][]term.T{nil, {b}, {b, k.less(x, 9), k.not(k.less(x, 2))}, {k.is(k.two(api.Add, u, v), 9), k.less(u, 4)}} {
		for _, y := range list(b, x, k.two(api.And, u, k.num(16, 7)), k.two(api.And, k.two(api.Sub, v, k.ext(16, x)), k.num(16, 31)), k.num(16, 9)) {
			env := k.can(l, endless, dpll.Sat)
			want := slices.Clone(env)
			other := k.can(l, endless, dpll.Sat)
			fill(env)
			if !slices.Equal(other, want) || !slices.Equal(k.can(l, endless, dpll.Sat), want) {
				t.Fatalf("what was written into one assignment shows in another: %v", l)
			}
			r, ok, _ := Values(k.Arena, l, y, 256, endless)
			kept := slices.Clone(r)
			r2, ok2, _ := Values(k.Arena, l, y, 256, endless)
			fill(r)
			r3, ok3, _ := Values(k.Arena, l, y, 256, endless)
			if !ok || !ok2 || !ok3 || !slices.Equal(r2, kept) || !slices.Equal(r3, kept) {
				t.Fatalf("what was written into some values shows in others: %v, term %d", l, y)
			}
		}
	}
}

// TestOnceMore: what is answered hangs on nothing but the terms: in an arena that was made alike it is the same, whatever was asked ahead.
func TestOnceMore(t *testing.T) {
	var envs [][]uint16
	for i := range 3 {
		k := start(t)
		b, u, v := k.id(1, 0), k.id(16, 2), k.id(16, 3)
		l := list(k.two(api.Lt, u, v), k.two(api.Or, b, k.is(k.two(api.Mul, u, v), 1200)), k.not(k.less(u, 3)))
		for range i {
			k.can(l[1:], endless, dpll.Sat)
			k.noValues(l, v, 30, endless)
		}
		envs = append(envs, k.can(l, endless, dpll.Sat))
	}
	if !slices.Equal(envs[0], envs[1]) || !slices.Equal(envs[0], envs[2]) {
		t.Errorf("one question, three answers: %v", envs)
	}
}
