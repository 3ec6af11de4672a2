package run_test

import (
	"strings"
	"testing"

	"crossroads/api"
	"crossroads/run"
)

// P16.4, and what holds everywhere: R2, R4, R5.

// TestExample is the chapter's.
func TestExample(t *testing.T) {
	x, e := run.Run(api.Prog{L: []api.Inst{{Op: api.IPush, A: 7}, {Op: api.IExit}}}, nil, api.Input{}, api.MaxFuel)
	if e != api.OK || x.End != api.Exited || x.Code != 7 || len(x.L) != 0 {
		t.Errorf("%+v, %d", x, int(e))
	}
}

// TestSteps: the instruction that ends a run was done, however it ends; what is jumped over was not, and what is gone through again was done again.
func TestSteps(t *testing.T) {
	w := world{tree: "a=abc", fails: "001"}
	for _, x := range []struct {
		text string
		done int
	}{
		{"push 7; exit", 2},
		{"push 7; exit; pop; push 7; exit", 2},
		{"push 7; push 0; div; exit", 3},
		{"push 7; push 0; mod; exit", 3},
		{"push 99; load; exit", 2},
		{"push 99; push 1; store; bye", 3},
		{"open a; push 31; push 2; read; exit", 4},
		{"push 0; push 31; push 2; write; exit", 4},
		{"push 0; assert; bye", 2},
		{"jump @x; push 1; pop; x: push 7; exit", 3},
		{"push 0; zero @x; push 1; pop; x: push 7; exit", 4},
		{"push 1; zero @x; push 1; pop; x: push 7; exit", 6},
		{"push 5; set 0; x: get 0; push 1; sub; dup; set 0; not; zero @x; bye", 39},
		{"push 0; push 9; arg; exit", 4},
		{"open a; unlink a; exit", 3},
		{"open a; open a; open x; size; exit", 5},
	} {
		for _, fuel := range []int{x.done, x.done + 1, api.MaxFuel} {
			if _, n, e := w.of(code(x.text), fuel).answer(t); n != x.done || e != api.OK {
				t.Errorf("%s with %d: %d steps, %d; want %d", x.text, fuel, n, int(e), x.done)
			}
		}
		for fuel := range x.done {
			if got, n, e := w.of(code(x.text), fuel).answer(t); n != fuel || got.End != api.Spent || e != api.OK {
				t.Errorf("%s with %d: %s, %d", x.text, fuel, told(got, n), int(e))
			}
		}
	}
}

// TestAllIsNew: what is written into a trace, or into what was handed in, shows in no other trace.
func TestAllIsNew(t *testing.T) {
	w := world{tree: "a=abcdef d/", args: []string{"xyz"}, fails: "0001"}
	p := code("open a; push 0; push 6; read; open d/b; push 1; push 0; push 3; write; mkdir e; push 0; push 1; arg; out; push 5; load; exit")
	q := w.of(p, api.MaxFuel)
	first, _ := run.Run(q.p, q.l, q.in, q.fuel)
	second, _ := run.Run(q.p, q.l, q.in, q.fuel)
	const want = "0 6 1 IoError 0 !121 Exited 102, 17 done"
	for i := range first.L[:cap(first.L)] {
		first.L[:cap(first.L)][i] = api.Event{Out: true, Val: 7}
	}
	if got := told(second, run.Steps(q.p, q.l, q.in, q.fuel)); got != want {
		t.Errorf("%s; want %s", got, want)
	}
	w.runs(t, p, api.MaxFuel, want)
	for i := range q.in.Files {
		clear(q.in.Files[i])
	}
	clear(q.in.Args[0])
	clear(q.in.Fails)
	clear(q.p.L)
	clear(q.p.Names)
	clear(q.l)
	if got := told(second, 17); got != want {
		t.Errorf("when all that was handed in is another: %s; want %s", got, want)
	}
	w.runs(t, p, api.MaxFuel, want)
}

// TestStepsRefused: 0, though the same program would do some.
func TestStepsRefused(t *testing.T) {
	p := code("push 7; exit")
	for what, q := range map[string]asked{
		"a program without an end": world{}.of(code("push 7"), 9),
		"a path twice":             world{tree: "a a"}.of(p, 9),
		"a file that is too long":  world{tree: "a=123456789"}.of(p, 9),
		"three arguments":          world{args: []string{"", "", ""}}.of(p, 9),
		"fuel below 0":             world{}.of(p, -1),
		"fuel above MaxFuel":       world{}.of(p, 401),
	} {
		if n := run.Steps(q.p, q.l, q.in, q.fuel); n != 0 {
			t.Errorf("%s: %d steps", what, n)
		}
	}
}

// TestEachRunBegins: whatever was run between, nothing is left of it: in files, descriptors, memory, locals, on the stack or of the entries that were asked.
func TestEachRunBegins(t *testing.T) {
	w := world{tree: "a=abc d/", args: []string{"z"}, fails: "0100"}
	const text = "get 3; tell; push 4; load; out; open a; open x; open x; size; list d; open d/y; push 0; push 4; push 9; read; push 77; set 3; push 4; load; exit"
	for range 3 {
		w.plays(t, text, "!0 !0 !0 0 IoError 1 0 0 2 3 Exited 97, 24 done")
		for between := range strings.Lines("open a; unlink a; exit\nmkdir x; exit\npush 4; push 9; store; push 300; set 3; bye\nx: push 1; pop; jump @x\npush 0; assert; bye") {
			w.of(code(strings.TrimSpace(between)), 50).answer(t)
		}
	}
}
