package run_test

import (
	"fmt"
	"slices"
	"strings"
	"testing"

	"crossroads/api"
)

// P16.3: which calls ask Next, and what happens where it says that they fail.

// mayFail are the calls that may fail, as the file system takes them and as it answers another number than 0 to; each with what it takes.
var mayFail = []string{
	"open a", "open c", "open d", "open x", "open d/x", "open a/x", "open x/y",
	"push 0; push 4; push 2; read", "push 1; push 4; push 2; read", "push 3; push 4; push 2; read", "push 0; push 33; push 2; read",
	"push 0; push 4; push 2; write", "push 1; push 4; push 8; write", "push 3; push 4; push 2; write", "push 0; push 33; push 2; write",
	"unlink a", "unlink c", "unlink d/b", "unlink d", "unlink x", "unlink a/x",
	"rename a c", "rename c x", "rename d/b a", "rename a a", "rename d x", "rename x a", "rename a d", "rename a a/x",
	"mkdir x", "mkdir d", "mkdir a", "mkdir d/x", "mkdir a/x",
	"rmdir e", "rmdir d", "rmdir a", "rmdir x", "rmdir a/x",
	"push 0; push 2; trunc", "push 1; push 8; trunc", "push 0; push 9; trunc", "push 3; push 2; trunc",
}

// looks are programs that tell what there is: what is open, how far and with what; what is at each path; memory; locals and the stack.
var looks = []string{
	"push 0; size; push 1; size; push 2; size; push 3; size; list d; list e; list x; bye",
	"open a; open c; open d/b; open x; bye",
	"open d/b; open a; open c; open x; size; push 2; size; bye",
	"rename x c; rename c a; rename d/b x; unlink a; unlink c; unlink x; unlink d/b; rmdir d; rmdir e; mkdir e; rmdir x; bye",
	"push 0; push 10; push 9; read; pop; push 1; push 20; push 9; read; pop; push 2; push 28; push 1; read; pop; " + dump,
	"push 0; push 0; push 2; write; push 1; push 0; push 3; write; push 0; push 0; seek; push 0; push 12; push 9; read; pop; pop; pop; pop; " + dump,
	"get 0; tell; get 1; tell; out; get 2; tell; bye",
}

// middle is a run up to a place where two files are open, neither at its beginning, a byte in memory and a number in a local and on the stack.
const middle = "push 77; open c; push 1; seek; pop; open a; push 0; push 2; read; pop; push 3; push 9; store; push 300; set 1"

// TestFailing: it answers IoError, what it takes is taken, and nothing else is done: all is then as if the call was not there.
func TestFailing(t *testing.T) {
	w := world{tree: "a=abcdef d/ d/b=xy e/ c=123"}
	failing := w
	failing.fails = "0001" // open, open and read, and the call
	for _, call := range mayFail {
		more := call + "; pop"
		for _, look := range looks {
			x, n, e := w.of(code(middle+"; "+look), api.MaxFuel).answer(t)
			y, m, f := failing.of(code(middle+"; "+more+"; "+look), api.MaxFuel).answer(t)
			with := slices.Insert(slices.Clone(x.L), 4, api.Event{Val: api.IoError})
			if e != api.OK || f != api.OK || !slices.Equal(with, y.L) || x.End != api.Exited || end(x) != end(y) || m != n+strings.Count(more, ";")+1 {
				t.Errorf("%s, and then %s: %s, %d; and if the call fails %s, %d", call, look, told(x, n), int(e), told(y, m), int(f))
			}
		}
		failing.answers(t, middle, call, api.IoError)
		failing.calls(t, middle, call, api.IoError)
	}
}

// TestNotFailing: where Next says no, and where it has no entry more, a call that may fail is as the file system says, which calls of these are not IoError.
func TestNotFailing(t *testing.T) {
	for _, call := range mayFail {
		p := code(middle + "; " + call + "; bye")
		x, n, e := world{tree: grove}.of(p, api.MaxFuel).answer(t)
		for _, fails := range []string{"0", "000", "0000", "00001", "000000", "00001111111"} {
			y, m, f := world{tree: grove, fails: fails}.of(p, api.MaxFuel).answer(t)
			if told(x, n) != told(y, m) || e != f || strings.Contains(told(x, n), "IoError") {
				t.Errorf("%s: %s, %d; and with %s %s, %d", call, told(x, n), int(e), fails, told(y, m), int(f))
			}
		}
	}
}

// TestAsksOnce: each call that may fail asks once, whatever it is answered: the next one has the next entry.
func TestAsksOnce(t *testing.T) {
	for _, call := range mayFail {
		if strings.Contains(call, "33") {
			continue // it ends there
		}
		for _, fails := range []string{"00", "01", "10", "11"} {
			p := code(middle + "; " + call + "; pop; open a; pop; open a; bye")
			x, n, e := world{tree: grove, fails: "000" + fails}.of(p, api.MaxFuel).answer(t)
			told := strings.Fields(told(x, n))
			first, second := told[4] == "IoError", told[5] == "IoError"
			if e != api.OK || first != (fails[0] == '1') || second != (fails[1] == '1') || told[6] == "IoError" {
				t.Errorf("%s with %s: %q, %d", call, fails, told, int(e))
			}
		}
	}
}

// TestEachMayFail: at each place in a row of calls, and all rows of entries.
func TestEachMayFail(t *testing.T) {
	calls := []string{"open a", "mkdir x", "rename a b", "unlink b", "rmdir x"}
	for set := range 1 << len(calls) {
		fails := fmt.Sprintf("%05b", set)
		var want []string
		there := map[string]bool{"a": true}
		for k, c := range fails {
			if c == '1' {
				want = append(want, "IoError")
				continue
			}
			switch k {
			case 1:
				there["x"] = true
			case 2:
				there["a"], there["b"] = false, true
			}
			if k == 3 && !there["b"] || k == 4 && !there["x"] {
				want = append(want, "NoEntry")
			} else {
				want = append(want, "0")
			}
		}
		world{tree: "a=abc", fails: fails}.plays(t, strings.Join(calls, "; ")+"; push 1; exit", strings.Join(want, " ")+" Exited 1, 7 done")
	}
}

// TestAskNothing: what is no call that may fail does not ask, and does not fail.
func TestAskNothing(t *testing.T) {
	for _, x := range []struct{ text, shown string }{
		{"push 0; close", "0"}, {"push 7; close", "BadFd"},
		{"push 0; push 1; seek", "1"}, {"push 0; push 256; seek", "Invalid"}, {"push 7; push 1; seek", "BadFd"},
		{"push 0; size", "6"}, {"push 7; size", "BadFd"},
		{"push 0; twin", "1"}, {"push 7; twin", "BadFd"},
		{"list d", "1"}, {"list a", "NotDir"}, {"list x", "NoEntry"},
		{"argc", ""}, {"push 0; push 1; arg", ""}, {"push 7; push 1; arg", ""},
		{"push 1; pop; push 2; dup; swap; add", ""}, {"push 2; push 1; sub; push 3; mul; push 2; div; push 2; mod", ""},
		{"push 6; push 3; and; push 1; or; push 2; xor; push 1; shl; push 1; shr; push 1; eq; push 1; lt; not", ""},
		{"get 1; set 1; push 1; load; push 1; push 2; store", ""}, {"jump @x; x: push 1; zero @y; y: push 1; assert; push 1", ""},
		{"push 1; out; push 1", "!1"},
	} {
		for _, fails := range []string{"01", "011", "01111"} {
			w := world{tree: grove, args: []string{"xyz"}, fails: fails}
			p := code("open a; " + x.text + "; open a; bye")
			want := strings.Join(strings.Fields("0 "+x.shown+" IoError"), " ")
			w.runs(t, p, api.MaxFuel, fmt.Sprintf("%s Exited 0, %d done", want, len(p.L)))
		}
	}
}
