package run_test

import (
	"fmt"
	"strings"
	"testing"

	"crossroads/api"
	"crossroads/room"
)

// P16.1: what is refused, how a run begins, and where it is Spent.

// many are n instructions that do nothing together, an even number of them, and an exit behind.
func many(n int) api.Prog {
	return code(strings.Repeat("push 1; pop; ", n/2) + "bye")
}

// A badProg is a program that check.Run refuses, and its error.
type badProg struct {
	what string
	e    api.Errno
	p    api.Prog
}

// badProgs are some for each of check.Run's errors.
func badProgs() []badProg {
	named := func(text string, names ...string) api.Prog { return api.Prog{L: code(text).L, Names: names} }
	return []badProg{
		{"no instructions", api.ErrFull, api.Prog{}},
		{"97 instructions", api.ErrFull, api.Prog{L: append(many(94).L, code("exit").L...)}},
		{"9 names", api.ErrFull, named("bye", strings.Fields("a b c d e f g h i")...)},
		{"a name that is none", api.ErrName, named("bye", "a", "A")},
		{"a name that is not there", api.ErrName, named("open 1; exit", "a")},
		{"a new name that is not there", api.ErrName, named("rename 1; exit", "a")},
		{"an elder name that is not there", api.ErrName, named("rename 8; exit", "a")},
		{"instruction 0", api.ErrOp, api.Prog{L: []api.Inst{{Op: 0}}}},
		{"the instruction behind the last", api.ErrOp, api.Prog{L: []api.Inst{{Op: api.IArg + 1}}}},
		{"a number below 0", api.ErrOp, api.Prog{L: []api.Inst{{Op: api.IPush, A: -1}, {Op: api.IExit}}}},
		{"a number of 17 bits", api.ErrOp, code("push 65536; exit")},
		{"local 8", api.ErrOp, code("get 8; exit")},
		{"a jump behind all", api.ErrJump, code("jump 1")},
		{"no end", api.ErrEnd, code("push 7")},
		{"no end behind a zero", api.ErrEnd, code("push 7; zero 0")},
		{"too little on the stack", api.ErrStack, code("push 1; add; exit")},
		{"too much on the stack", api.ErrStack, code(strings.Repeat("push 1; ", 17) + "exit")},
		{"two heights", api.ErrStack, code("push 1; push 2; zero 0; exit")},
	}
}

func TestBadProgs(t *testing.T) {
	for _, x := range badProgs() {
		for _, fuel := range []int{0, 9, api.MaxFuel} {
			verdict(t, x.what, world{}.of(x.p, fuel), x.e)
		}
	}
	verdict(t, "96 instructions", world{}.of(many(94), api.MaxFuel), api.OK)
	verdict(t, "16 numbers", world{}.of(code(strings.Repeat("push 1; ", 16)+"exit"), api.MaxFuel), api.OK)
	verdict(t, "8 names", world{}.of(api.Prog{L: code("bye").L, Names: strings.Fields("a b c d e f g h")}, api.MaxFuel), api.OK)
}

// TestBadTrees: ErrClass is files.New's, of trees that are none.
func TestBadTrees(t *testing.T) {
	for _, tree := range []string{"a b c d e f g h i", "A", "a a", "d/b d", "d/b", "a a/b/", "d/b/c", "a/ a", "d/ d/e/", "aaaaaaaaa", ".."} {
		verdict(t, tree, world{tree: tree}.of(code("bye"), 9), api.ErrClass)
	}
	l := []api.Entry{{Path: "d/b"}, {Path: "d", Dir: true}}
	verdict(t, "the directory behind", asked{p: code("bye"), l: l, in: api.Input{Files: [][]byte{nil}}, fuel: 9}.roomy(), api.ErrClass)
	for _, tree := range []string{"", "a b c d e f g h", "d/ d/b a=12345678"} {
		verdict(t, tree, world{tree: tree}.of(code("bye"), 9), api.OK)
	}
}

// TestTreeCaps: what an entry's Cap is does not matter to files.New.
func TestTreeCaps(t *testing.T) {
	for _, n := range []int{-1, 0, 1, 3, 4, 1 << 40} {
		l := []api.Entry{{Path: "d", Dir: true, Cap: n}, {Path: "a", Cap: n}}
		q := asked{p: code("open a; size; exit"), l: l, in: api.Input{Files: [][]byte{[]byte("abcde")}}, fuel: 9}.roomy()
		if x, n, e := q.answer(t); e != api.OK || told(x, n) != "0 5 Exited 5, 3 done" {
			t.Errorf("Cap %d: %s, %d", n, told(x, n), int(e))
		}
	}
}

// TestBadFiles: ErrInput is files.New's, of rows that are not as many as files, or too long.
func TestBadFiles(t *testing.T) {
	for _, tree := range []string{"", "a", "a b", "d/", "d/ d/a", "d/ d/a b c=12345678", "a b c d e f g h"} {
		l, data := room.Entries(tree)
		for n := range 11 {
			for _, size := range []int{0, 8, 9} {
				rows := make([][]byte, n)
				for i := range rows {
					rows[i] = make([]byte, size)
				}
				q := asked{p: code("bye"), l: l, in: api.Input{Files: rows}, fuel: 9}.roomy()
				well := n == len(data) && (size < 9 || n == 0)
				verdict(t, fmt.Sprintf("%d rows of %d in %q", n, size, tree), q, unless(well, api.ErrInput))
			}
		}
	}
	for k := range 3 {
		rows := [][]byte{[]byte("a"), []byte("b"), []byte("c")}
		rows[k] = []byte("123456789")
		l, _ := room.Entries("a d/ d/b c")
		verdict(t, fmt.Sprint("row ", k), asked{p: code("bye"), l: l, in: api.Input{Files: rows}, fuel: 9}.roomy(), api.ErrInput)
	}
}

// TestManyArgs: MaxArgs of them, and one more.
func TestManyArgs(t *testing.T) {
	for n := range 6 {
		for _, s := range []string{"", "x"} {
			var args []string
			for range n {
				args = append(args, s)
			}
			q := world{args: args}.of(code("bye"), 9)
			verdict(t, fmt.Sprint(n, " arguments"), q, unless(n <= 2, api.ErrInput))
		}
	}
}

// TestLongArgs: 255 bytes and 256, in each place.
func TestLongArgs(t *testing.T) {
	for _, n := range []int{0, 1, 3, 4, 8, 9, 32, 254, 255, 256, 257, 511, 512, 65536} {
		long := strings.Repeat("x", n)
		for _, args := range [][]string{{long}, {long, ""}, {"", long}, {long, long}, {"abc", long}} {
			q := world{args: args}.of(code("bye"), 9)
			verdict(t, fmt.Sprint(n, " bytes"), q, unless(n <= 255, api.ErrInput))
		}
	}
}

// TestManyFails: how many entries there are is not refused, and those that are not asked do not matter.
func TestManyFails(t *testing.T) {
	for _, n := range []int{0, 1, 6, 7, 100, 1 << 16} {
		world{fails: strings.Repeat("1", n)}.plays(t, "bye", "Exited 0, 2 done")
		world{fails: strings.Repeat("0", n)}.plays(t, "open a; exit", "0 Exited 0, 2 done")
	}
}

// TestFuel: from 0 to MaxFuel.
func TestFuel(t *testing.T) {
	for _, n := range []int{-1 << 63, -1 << 32, -401, -2, -1, 401, 402, 1000, 1 << 16, 1 << 32, 1<<63 - 1} {
		for _, text := range []string{"bye", "x: jump @x", "push 1; push 0; div; exit"} {
			verdict(t, fmt.Sprint("fuel ", n), world{}.of(code(text), n), api.ErrArg)
		}
	}
	for n := range 401 {
		world{}.runs(t, code("x: jump @x"), n, fmt.Sprintf("Spent, %d done", n))
	}
}

// TestOrderOfErrors: of all that could be refused at once, what the chapter names first.
func TestOrderOfErrors(t *testing.T) {
	bad := []func(q *asked){
		func(q *asked) { q.p.L[1].A = 3 },
		func(q *asked) { q.l[1].Path = "a" },
		func(q *asked) { q.in.Files[0] = make([]byte, 9) },
		func(q *asked) { q.in.Files = q.in.Files[:1] },
		func(q *asked) { q.in.Args = append(q.in.Args, nil) },
		func(q *asked) { q.in.Args[1] = make([]byte, 256) },
		func(q *asked) { q.fuel = -1 },
		func(q *asked) { q.fuel = 401 },
	}
	errors := []api.Errno{api.ErrOp, api.ErrClass, api.ErrInput, api.ErrInput, api.ErrInput, api.ErrInput, api.ErrArg, api.ErrArg}
	for set := 1; set < 1<<len(bad); set++ {
		q := world{tree: "a b", args: []string{"x", "y"}}.of(code("push 0; exit; exit"), 9)
		want := api.OK
		for k, spoil := range bad {
			if set>>k&1 == 0 {
				continue
			}
			spoil(&q)
			if want == api.OK {
				want = errors[k]
			}
		}
		verdict(t, fmt.Sprintf("%b", set), q, want)
	}
	for _, x := range badProgs() {
		q := asked{p: x.p, l: []api.Entry{{Path: "A"}}, in: api.Input{Args: make([][]byte, 3)}, fuel: -1}
		verdict(t, x.what, q.roomy(), x.e)
	}
}

// TestBegin: at instruction 0, with noughts in all locals and in all Memory bytes; the stack is empty, as 16 numbers fit on it.
func TestBegin(t *testing.T) {
	plays(t, "push 7; exit", "Exited 7, 2 done")
	plays(t, "jump @x; y: push 3; exit; x: jump @y", "Exited 3, 4 done")
	all, want := "", ""
	for n := range 8 {
		all += fmt.Sprintf("get %d; tell; ", n)
		want += "!0 !0 "
	}
	plays(t, all+"bye", want+"Exited 0, 50 done")
	plays(t, dump, strings.Repeat("!0 ", 32)+"Exited 0, 291 done")
	plays(t, strings.Repeat("push 9; ", 16)+"exit", "Exited 9, 17 done")
}

// TestSpent: with as much fuel as there are instructions to be done, and with less.
func TestSpent(t *testing.T) {
	text := "push 65; out; open a; pop; push 66; out; push 3; exit"
	shown := []string{"", "", "!65", "!65 0", "!65 0", "!65 0", "!65 0 !66", "!65 0 !66", "!65 0 !66"}
	for fuel := range 401 {
		if fuel < 8 {
			world{}.runs(t, code(text), fuel, strings.TrimSpace(fmt.Sprintf("%s Spent, %d done", shown[fuel], fuel)))
		} else {
			world{}.runs(t, code(text), fuel, "!65 0 !66 Exited 3, 8 done")
		}
	}
}

// TestSpentAtTheEnd: the last instruction that the fuel allows may end the run itself; with one less it is Spent ahead of it.
func TestSpentAtTheEnd(t *testing.T) {
	w := world{tree: "a=abc"}
	for _, x := range []struct {
		text, ahead, end string
		done             int
	}{
		{"push 5; exit", "", "Exited 5", 2},
		{"push 5; push 0; div; exit", "", "Divided", 3},
		{"push 5; push 0; mod; exit", "", "Divided", 3},
		{"push 32; load; exit", "", "Outside", 2},
		{"push 32; push 1; store; push 1; exit", "", "Outside", 3},
		{"open a; push 30; push 3; read; exit", "0 ", "Outside", 4},
		{"push 9; push 32; push 1; write; exit", "", "Outside", 4},
		{"push 0; assert; push 1; exit", "", "Failed", 2},
	} {
		for fuel := 1; fuel < x.done; fuel++ {
			w.runs(t, code(x.text), fuel, fmt.Sprintf("%sSpent, %d done", x.ahead, fuel))
		}
		for _, fuel := range []int{x.done, x.done + 1, 399, 400} {
			w.runs(t, code(x.text), fuel, fmt.Sprintf("%s%s, %d done", x.ahead, x.end, x.done))
		}
	}
}

// TestSpentAtMaxFuel: an exit as the last instruction of all that may be done, and one behind it.
func TestSpentAtMaxFuel(t *testing.T) {
	loop := "x: get 0; push 1; add; dup; set 0; push 49; eq; zero @x; " // 392 are done
	plays(t, loop+strings.Repeat("push 1; ", 7)+"exit", "Exited 1, 400 done")
	plays(t, loop+strings.Repeat("push 1; ", 8)+"exit", "Spent, 400 done")
}
