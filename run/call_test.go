package run_test

import (
	"fmt"
	"strings"
	"testing"

	"crossroads/api"
	"crossroads/inst"
	"crossroads/room"
)

// P16.3: what the file system answers, as it comes to the stack and to the events.

// grove is a tree in which there is each kind of thing.
const grove = "a=abcdef d/ d/b=xy e/ c"

func TestOpen(t *testing.T) {
	world{tree: grove}.all(t, `
		| open a -> 0
		| open d/b -> 0
		| open new -> 0
		| open d/new -> 0
		open a | open a -> 1
		open a; open c | open d/b -> 2
		open a; open a; open a | open a -> 3
		open a; open a; open a; open a | open a -> ManyFds
		open a; open a; push 0; close | open c -> 0
		| open d -> IsDir
		| open a/x -> NotDir
		| open x/y -> NoEntry
		open new | push 0; size -> 0
		open d/b | push 0; size -> 2
		open a | push 0; push 0; push 9; read -> 6`)
	world{tree: "a b c d/ e f g h"}.all(t, `
		| open x -> NoSpace
		| open d/x -> NoSpace
		| open h -> 0`)
}

func TestClose(t *testing.T) {
	world{tree: grove}.all(t, `
		open a | push 0; close -> 0
		open a; open c | push 1; close -> 0
		| push 0; close -> BadFd
		open a | push 65535; close -> BadFd
		open a | push 256; close -> BadFd
		open a; close | push 0; close -> BadFd
		open a | push 1; close -> BadFd
		open a; open c; close | push 0; size -> 6
		open a; open c; close | push 1; size -> BadFd`)
}

func TestSize(t *testing.T) {
	world{tree: grove}.all(t, `
		open a | push 0; size -> 6
		open c | push 0; size -> 0
		open d/b; open a | push 0; size -> 2
		open d/b; open a | push 1; size -> 6
		| push 0; size -> BadFd
		open a | push 1; size -> BadFd
		open a | push 256; size -> BadFd`)
}

func TestTwin(t *testing.T) {
	world{tree: grove}.all(t, `
		open a | push 0; twin -> 1
		open a; twin; twin | push 0; twin -> 3
		open a; open c; push 0; close | push 1; twin -> 0
		| push 0; twin -> BadFd
		open a | push 1; twin -> BadFd
		open a | push 65535; twin -> BadFd
		open a; twin; twin; twin | push 0; twin -> ManyFds
		open c; open a; push 0; twin | push 2; size -> 0
		open a; twin; push 4; seek | push 0; push 0; push 9; read -> 2`)
}

// TestSeek: of the descriptor ahead of the top, to the top.
func TestSeek(t *testing.T) {
	world{tree: grove}.all(t, `
		open a | push 0; push 0; seek -> 0
		open a | push 0; push 1; seek -> 1
		open a | push 0; push 255; seek -> 255
		open a | push 0; push 256; seek -> Invalid
		open a | push 0; push 65535; seek -> Invalid
		| push 1; push 0; seek -> BadFd
		open a | push 1; push 0; seek -> BadFd
		| push 9; push 300; seek -> BadFd
		open a; open c | push 1; push 3; seek -> 3
		open a; push 4; seek | push 0; push 0; push 9; read -> 2
		open a; open a; push 4; seek | push 0; push 0; push 9; read -> 6`)
}

// TestTrunc: the file of the descriptor ahead of the top has as many bytes as the top says.
func TestTrunc(t *testing.T) {
	world{tree: grove}.all(t, `
		open a | push 0; push 0; trunc -> 0
		open a | push 0; push 8; trunc -> 0
		open a | push 0; push 9; trunc -> Invalid
		open a | push 0; push 65535; trunc -> Invalid
		open a | push 1; push 0; trunc -> BadFd
		| push 0; push 9; trunc -> BadFd
		open a; push 4; trunc | push 0; size -> 4
		open a; push 8; trunc | push 0; size -> 8
		open a; push 9; trunc | push 0; size -> 6
		open a; open d/b; push 1; trunc | push 0; size -> 6
		open a; open d/b; push 1; trunc | push 1; size -> 1`)
	world{tree: grove}.holds(t, "open a; push 2; trunc; push 0; push 5; trunc; push 0; push 8; push 9; read", 8, 'a', 'b', 0, 0, 0)
}

func TestUnlink(t *testing.T) {
	world{tree: grove}.all(t, `
		| unlink a -> 0
		| unlink d/b -> 0
		unlink a | unlink a -> NoEntry
		| unlink x -> NoEntry
		| unlink x/y -> NoEntry
		| unlink a/x -> NotDir
		| unlink d -> IsDir
		unlink d/b | list d -> 0
		unlink a; open a | push 0; size -> 0
		open a; unlink a | push 0; size -> 6`)
}

func TestMkdir(t *testing.T) {
	world{tree: grove}.all(t, `
		| mkdir x -> 0
		mkdir x | list x -> 0
		mkdir x | open x -> IsDir
		mkdir x | open x/y -> 0
		| mkdir d -> Exists
		| mkdir a -> Exists
		| mkdir d/x -> Invalid
		| mkdir d/b -> Exists
		| mkdir a/x -> NotDir
		| mkdir x/y -> NoEntry`)
	world{tree: "a b c d e f g h"}.all(t, `
		| mkdir x -> NoSpace
		unlink a | mkdir x -> 0`)
}

func TestRmdir(t *testing.T) {
	world{tree: grove}.all(t, `
		| rmdir e -> 0
		rmdir e | list e -> NoEntry
		| rmdir d -> NotEmpty
		unlink d/b | rmdir d -> 0
		| rmdir a -> NotDir
		| rmdir a/x -> NotDir
		| rmdir x -> NoEntry
		| rmdir x/y -> NoEntry`)
}

func TestList(t *testing.T) {
	world{tree: grove}.all(t, `
		| list d -> 1
		| list e -> 0
		open d/x | list d -> 2
		| list a -> NotDir
		| list a/x -> NotDir
		| list x -> NoEntry
		| list x/y -> NoEntry`)
	world{tree: "d/ d/a d/b d/c d/d d/e d/f d/g"}.all(t, `| list d -> 7`)
}

func TestRename(t *testing.T) {
	world{tree: grove}.all(t, `
		| rename a x -> 0
		| rename a a -> 0
		rename a x; open x | push 0; size -> 6
		rename a x | unlink a -> NoEntry
		rename a c; open c | push 0; size -> 6
		rename a d/b | list d -> 1
		rename a d/x | list d -> 2
		| rename x a -> NoEntry
		| rename d x -> IsDir
		| rename a d -> IsDir
		| rename a/x c -> NotDir
		| rename a c/x -> NotDir
		| rename a x/y -> NoEntry`)
}

// TestRenameNames: the elder name is A by MaxNames, and the new one A modulo MaxNames, each pair of them.
func TestRenameNames(t *testing.T) {
	names := strings.Fields("a b c d e f g h")
	for from, elder := range names {
		for to := range names {
			w := world{tree: elder + "=xyz"}
			move := []api.Inst{{Op: api.IRename, A: from*8 + to}}
			for _, what := range []struct {
				ask  []api.Inst
				want string
			}{
				{[]api.Inst{{Op: api.IOpen, A: to}, {Op: api.ISize}}, "0 0 3 Exited 3, 4 done"},
				{[]api.Inst{{Op: api.IUnlink, A: from}}, map[bool]string{true: "0 0 Exited 0, 3 done", false: "0 NoEntry Exited 2, 3 done"}[from == to]},
			} {
				p := api.Prog{L: append(append(move, what.ask...), api.Inst{Op: api.IExit}), Names: names}
				w.runs(t, p, api.MaxFuel, what.want)
			}
		}
	}
}

// TestNames: each of eight names by its number.
func TestNames(t *testing.T) {
	names := strings.Fields("a b c d e f g h")
	for k, name := range names {
		for op, want := range map[int]string{api.IOpen: "0", api.IUnlink: "0", api.IMkdir: "Exists", api.IRmdir: "NotDir", api.IList: "NotDir"} {
			for _, tree := range []string{name, name + "/"} {
				if dir := strings.HasSuffix(tree, "/"); dir {
					want = map[int]string{api.IOpen: "IsDir", api.IUnlink: "IsDir", api.IMkdir: "Exists", api.IRmdir: "0", api.IList: "0"}[op]
				}
				x, n, e := world{tree: tree}.of(api.Prog{L: append([]api.Inst{{Op: op, A: k}}, code("pop; bye").L...), Names: names}, 9).answer(t)
				if got := told(x, n); e != api.OK || got != want+" Exited 0, 4 done" {
					t.Errorf("%s %s in %s: %s, %d; want %s", inst.Name(op), name, tree, got, int(e), want)
				}
			}
		}
	}
}

// TestCallsAreEvents: all calls but argc and arg, in their order among bytes that are put out.
func TestCallsAreEvents(t *testing.T) {
	w := world{tree: grove, args: []string{"xy"}}
	w.plays(t, "open a; close; out; argc; out; push 0; push 1; arg; out; list d; mkdir d; pop; pop; push 5; exit", "0 0 !0 !1 !121 1 Exists Exited 5, 15 done")
	w.plays(t, "argc; argc; push 0; arg; pop; pop; argc; push 9; push 9; arg; exit", "Exited 255, 11 done")
	x, _, _ := w.of(code("open a; out; mkdir d; out; bye"), 99).answer(t)
	if got := fmt.Sprint(x.L); got != "[{false 0} {true 0} {false 65297} {true 17}]" {
		t.Error(got)
	}
}

// TestArgc: how many there are, whatever they have.
func TestArgc(t *testing.T) {
	for n, args := range [][]string{nil, {"abc"}, {"", ""}} {
		world{args: args}.answers(t, "", "argc", uint16(n))
		world{args: args}.answers(t, "", "push 7; argc; argc; pop; swap; pop", uint16(n))
	}
}

// TestArg: of the argument ahead of the top the byte at the top; Nothing, if there is none.
func TestArg(t *testing.T) {
	for _, args := range [][]string{nil, {"abc"}, {"", ""}, {"ab", "xyz_\xff"}, {"abcdef", ""}, {strings.Repeat("a", 254) + "z", "12"}} {
		for _, k := range append(borders, 4, 5, 6, 253) {
			for _, at := range append(borders, 4, 5, 6, 253) {
				want := uint16(api.Nothing)
				if int(k) < len(args) && int(at) < len(args[k]) {
					want = uint16(room.Bytes(args[k])[at])
				}
				world{args: args}.answers(t, "", fmt.Sprintf("push %d; push %d; arg", k, at), want)
			}
		}
	}
}
