package prog

import (
	"bytes"
	"slices"
	"testing"

	"crossroads/api"
)

// R4: what is handed in stays as it is, spare room too, and what is answered is new.

// roomy is l once more, with spare room in which more stands.
func roomy[E any](l []E, more ...E) []E {
	return append(slices.Clone(l), more...)[:len(l)]
}

// whole is a copy of l and of its spare room.
func whole[E any](l []E) []E { return slices.Clone(l[:cap(l)]) }

// spread is p with spare room in its lists.
func spread(p api.Prog) api.Prog {
	return api.Prog{L: roomy(p.L, api.Inst{Op: 99, A: -1}, api.Inst{Op: 3}), Names: roomy(p.Names, "spare", "room")}
}

// refusals are programs that Bytes refuses.
func refusals() []api.Prog {
	return []api.Prog{{L: pops(97)}, {Names: names(9)}, {Names: []string{"a", long(256)}}, program([]string{"a"}, api.IPop, 0, api.IPop, 1)}
}

func TestProgStays(t *testing.T) {
	for _, p := range append(some(), refusals()...) {
		q := spread(p)
		l, n := whole(q.L), whole(q.Names)
		Bytes(q)
		Text(q)
		if !same(p, q) || !slices.Equal(whole(q.L), l) || !slices.Equal(whole(q.Names), n) {
			t.Errorf("%v is %v now", show(p), show(q))
		}
	}
}

func TestBytesStay(t *testing.T) {
	for _, p := range append(some(), refusals()...) {
		b := roomy(raw(p), 88, 82, 0, 0, 9)
		was := whole(b)
		Read(b)
		Read(b[:len(b)/2])
		if !bytes.Equal(whole(b), was) {
			t.Errorf("%v is %v now", was, whole(b))
		}
	}
}

// TestBytesAreNew: what is written into an answer, its room too, shows in no other, and not in the program.
func TestBytesAreNew(t *testing.T) {
	for _, p := range some() {
		q := spread(p)
		b, want := taken(t, q), raw(p)
		b = b[:cap(b)]
		for i := range b {
			b[i] = 7
		}
		if again := taken(t, q); !bytes.Equal(again, want) || !same(p, q) {
			t.Errorf("Bytes(%v) once more = %v", show(q), again)
		}
	}
}

// TestProgIsNew: it shares nothing with the bytes, and none of its lists with another one.
func TestProgIsNew(t *testing.T) {
	for _, p := range some() {
		b := roomy(raw(p), 7, 7, 7)
		got, _ := Read(b)
		other, _ := Read(b)
		clear(b[:cap(b)])
		clear(other.L[:cap(other.L)])
		clear(other.Names[:cap(other.Names)])
		if !same(got, p) {
			t.Errorf("%v is %v now", show(p), show(got))
		}
		clear(got.L[:cap(got.L)])
		if !slices.Equal(got.Names, p.Names) || len(bytes.Trim(b, "\x00")) != 0 {
			t.Errorf("what is written into the instructions of %v shows elsewhere: %q, %v", show(p), got.Names, b)
		}
	}
}

// TestOnceMore: the same is answered again, whatever was asked between.
func TestOnceMore(t *testing.T) {
	for _, p := range some() {
		b, text := taken(t, p), Text(p)
		for _, q := range append(some(), refusals()...) {
			Bytes(q)
			Read(raw(q))
			Text(q)
		}
		if again := taken(t, p); !bytes.Equal(again, b) || Text(p) != text {
			t.Errorf("%v once more: %v, %q", show(p), again, Text(p))
		}
	}
}
