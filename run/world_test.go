package run_test

import (
	"fmt"
	"slices"
	"strings"
	"testing"

	"crossroads/api"
	"crossroads/inst"
	"crossroads/room"
	"crossroads/run"
)

// A world is what a program meets: files as room.Entries reads them, arguments, and which calls fail: 1 for one that does, 0 for one that does not.
type world struct {
	tree  string
	args  []string
	fails string
}

// asked is all that run is asked with, each list with spare room in which more stands.
type asked struct {
	p    api.Prog
	l    []api.Entry
	in   api.Input
	fuel int
}

// of is a question of a program that runs in w.
func (w world) of(p api.Prog, fuel int) asked {
	q := asked{p: p, fuel: fuel}
	q.l, q.in.Files = room.Entries(w.tree)
	for _, s := range w.args {
		q.in.Args = append(q.in.Args, room.Bytes(s))
	}
	for _, c := range w.fails {
		q.in.Fails = append(q.in.Fails, c == '1')
	}
	return q.roomy()
}

// roomy is q with spare room.
func (q asked) roomy() asked {
	q.p.L = append(slices.Clone(q.p.L), api.Inst{Op: api.IPop}, api.Inst{Op: 99, A: -1})[:len(q.p.L)]
	q.p.Names = append(slices.Clone(q.p.Names), "SPARE", "a")[:len(q.p.Names)]
	q.l = append(slices.Clone(q.l), api.Entry{Path: "room"}, api.Entry{Path: "A"})[:len(q.l)]
	q.in.Files = append(slices.Clone(q.in.Files), []byte("file"), nil)[:len(q.in.Files)]
	q.in.Args = append(slices.Clone(q.in.Args), []byte("arg"), nil)[:len(q.in.Args)]
	q.in.Fails = append(slices.Clone(q.in.Fails), true, true)[:len(q.in.Fails)]
	return q
}

// whole is what stands in q's lists, spare room too.
func (q asked) whole() string {
	rows := func(l [][]byte) string {
		s := fmt.Sprint(len(l))
		for _, b := range l[:cap(l)] {
			s += fmt.Sprint(" ", len(b), b[:cap(b)])
		}
		return s
	}
	return fmt.Sprint(q.p.L[:cap(q.p.L)], q.p.Names[:cap(q.p.Names)], q.l[:cap(q.l)], rows(q.in.Files), rows(q.in.Args), q.in.Fails[:cap(q.in.Fails)])
}

// answer is what Run and Steps answer, which has to be the same once more, and to leave what was handed in as it is.
func (q asked) answer(t *testing.T) (api.Trace, int, api.Errno) {
	t.Helper()
	was := q.whole()
	x, e := run.Run(q.p, q.l, q.in, q.fuel)
	n := run.Steps(q.p, q.l, q.in, q.fuel)
	y, f := run.Run(q.p, q.l, q.in, q.fuel)
	m := run.Steps(q.p, q.l, q.in, q.fuel)
	if told(x, n) != told(y, m) || e != f {
		t.Errorf("%s: %s, %d; and once more %s, %d", show(q.p), told(x, n), int(e), told(y, m), int(f))
	}
	if now := q.whole(); now != was {
		t.Errorf("%s: there was handed in\n%s and is\n%s", show(q.p), was, now)
	}
	return x, n, e
}

// runs fails the test where a program that runs in w with so much fuel does not show what want tells.
func (w world) runs(t *testing.T, p api.Prog, fuel int, want string) {
	t.Helper()
	x, n, e := w.of(p, fuel).answer(t)
	if got := told(x, n); e != api.OK || got != want {
		t.Errorf("%s in %v with %d: %s, %d; want %s", show(p), w, fuel, got, int(e), want)
	}
}

// plays is runs of a text, with all fuel that may be.
func (w world) plays(t *testing.T, text, want string) {
	t.Helper()
	w.runs(t, code(text), api.MaxFuel, want)
}

// plays is that in a world in which nothing is.
func plays(t *testing.T, text, want string) {
	t.Helper()
	world{}.plays(t, text, want)
}

// cleared is a text, which goes straight on, with pops behind for all that it leaves on the stack.
func cleared(text string) string {
	if text == "" {
		return ""
	}
	n := 0
	for _, i := range code(text).L {
		n += inst.Gives(i.Op) - inst.Takes(i.Op)
	}
	return text + "; " + strings.Repeat("pop; ", n)
}

// answers fails the test where text does not leave want on the stack, above the one number that was there behind ahead, which is done first.
func (w world) answers(t *testing.T, ahead, text string, want uint16) {
	t.Helper()
	p := code(cleared(ahead) + "push 4660; " + text + "; tell; tell; bye")
	x, n, e := w.of(p, api.MaxFuel).answer(t)
	shown := halves(want) + " " + halves(4660)
	if got := told(x, n); e != api.OK || !strings.HasSuffix(" "+got, " "+shown+fmt.Sprintf(" Exited 0, %d done", len(p.L))) {
		t.Errorf("%s behind %s in %v: %s, %d; want %s", text, ahead, w, got, int(e), shown)
	}
}

// calls fails the test where text, whose last instruction is a call, does not answer want: as the last Event and on the stack, from which it took what it takes and no more.
func (w world) calls(t *testing.T, ahead, text string, want uint16) {
	t.Helper()
	w.answers(t, ahead, text, want)
	x, n, e := w.of(code(cleared(ahead)+text+"; bye"), api.MaxFuel).answer(t)
	if last := len(x.L) - 1; e != api.OK || last < 0 || x.L[last] != (api.Event{Val: want}) {
		t.Errorf("%s behind %s in %v: %s, %d; want %s", text, ahead, w, told(x, n), int(e), event(api.Event{Val: want}))
	}
}

// all is calls of each line: what is ahead, a stroke, the call with what it takes, an arrow, and what it answers, a number or its word.
func (w world) all(t *testing.T, lines string) {
	t.Helper()
	for line := range strings.Lines(lines) {
		all, want, is := strings.Cut(strings.TrimSpace(line), " -> ")
		if !is {
			continue
		}
		ahead, text, _ := strings.Cut(all, "| ")
		w.calls(t, strings.TrimSpace(ahead), text, uint16(code("push " + want).L[0].A))
	}
}

// dump puts out all bytes of memory.
const dump = "push 0; dump: dup; load; out; push 1; add; dup; push 32; eq; zero @dump; bye"

// holds fails the test where memory is not all noughts behind text but for these bytes, which are at that address.
func (w world) holds(t *testing.T, text string, at int, bytes ...byte) {
	t.Helper()
	x, n, e := w.of(code(text+"; "+dump), api.MaxFuel).answer(t)
	want := make([]byte, 32)
	copy(want[at:], bytes)
	var got []byte
	for _, event := range x.L[max(0, len(x.L)-32):] {
		got = append(got, byte(event.Val))
	}
	if e != api.OK || x.End != api.Exited || !slices.Equal(got, want) {
		t.Errorf("%s in %v: %s, %d; want %v", text, w, told(x, n), int(e), want)
	}
}

// verdict fails the test where Run does not answer that error: beside another than OK nothing else, and no steps.
func verdict(t *testing.T, what string, q asked, want api.Errno) {
	t.Helper()
	x, n, e := q.answer(t)
	nothing := len(x.L) == 0 && x.End == 0 && x.Code == 0 && n == 0
	if e != want || nothing != (want != api.OK) {
		t.Errorf("%s: %s, %d; want %d", what, told(x, n), int(e), int(want))
	}
}

// unless is OK where all is well, and else that error.
func unless(well bool, e api.Errno) api.Errno {
	if well {
		return api.OK
	}
	return e
}
