package run_test

import (
	"fmt"
	"strings"
	"testing"

	"crossroads/api"
)

// P16.3, read and write: which bytes go where, and which of Outside and the file system's answer comes first.

// afar are addresses of Memory and more, some of which are within it again where 16 bits wrap round.
var afar = []int{32, 33, 40, 255, 256, 32767, 32768, 65504, 65527, 65528, 65530, 65532, 65533, 65534, 65535}

// TestRead: of a descriptor, to an address, as many as a count says, which is the top: how many came.
func TestRead(t *testing.T) {
	w := world{tree: "a=abcdef b=_\xff c"}
	w.all(t, `
		open a | push 0; push 5; push 3; read -> 3
		open a | push 0; push 3; push 5; read -> 5
		open a | push 0; push 0; push 6; read -> 6
		open a | push 0; push 0; push 7; read -> 6
		open a | push 0; push 0; push 65535; read -> 6
		open a; push 4; push 2; read | push 0; push 0; push 9; read -> 4
		open a; push 4; push 6; read | push 0; push 0; push 9; read -> 0
		open a; open c | push 1; push 0; push 9; read -> 0
		open c; open a | push 1; push 0; push 9; read -> 6
		| push 0; push 0; push 9; read -> BadFd
		open a | push 1; push 0; push 9; read -> BadFd
		open a | push 4; push 0; push 9; read -> BadFd`)
	w.holds(t, "open a; push 5; push 3; read", 5, 'a', 'b', 'c')
	w.holds(t, "open a; push 5; push 0; read", 5)
	w.holds(t, "open a; push 5; push 1; read; push 0; push 7; push 9; read", 5, 'a', 0, 'b', 'c', 'd', 'e', 'f')
	w.holds(t, "open a; push 5; push 4; read; push 0; push 7; push 9; read", 5, 'a', 'b', 'e', 'f')
	w.holds(t, "push 6; push 7; store; push 8; push 9; store; open b; push 6; push 4; read", 6, 0, 255, 9)
}

// TestReadAtTheEdge: bytes that end at Memory are in it, and with one more it ends Outside. What counts is how many came.
func TestReadAtTheEdge(t *testing.T) {
	w := world{tree: "a=abcdefgh"}
	for at := 20; at < 34; at++ {
		for _, count := range []int{1, 2, 3, 7, 8, 9, 100, 65504, 65535} {
			came := min(count, 8)
			text := fmt.Sprintf("open a; push %d; push %d; read", at, count)
			if at+came <= 32 {
				w.plays(t, text+"; exit", fmt.Sprintf("0 %d Exited %[1]d, 5 done", came))
				w.holds(t, text, at, []byte("abcdefgh")[:came]...)
			} else {
				w.plays(t, text+"; exit", "0 Outside, 4 done")
			}
		}
	}
}

// TestReadAfar: Outside, without an Event, wherever bytes came.
func TestReadAfar(t *testing.T) {
	for _, at := range afar {
		for _, count := range []int{1, 2, 4, 6, 65535} {
			world{tree: "a=abcdef"}.plays(t, fmt.Sprintf("push 3; out; open a; push %d; push %d; read; exit", at, count), "!3 0 Outside, 6 done")
		}
	}
}

// TestReadNothing: where no byte came, no address is Outside.
func TestReadNothing(t *testing.T) {
	for _, at := range append(afar, 0, 31) {
		world{tree: "a=abcdef c"}.all(t, strings.ReplaceAll(`
			open a | push 0; push AT; push 0; read -> 0
			open c | push 0; push AT; push 9; read -> 0
			open c | push 0; push AT; push 65535; read -> 0
			open a; push 6; seek | push 0; push AT; push 9; read -> 0
			open a; push 200; seek | push 0; push AT; push 9; read -> 0
			| push 0; push AT; push 9; read -> BadFd
			| push 0; push AT; push 0; read -> BadFd
			open a | push 1; push AT; push 9; read -> BadFd
			open a | push 65535; push AT; push 9; read -> BadFd`, "AT", fmt.Sprint(at)))
	}
}

// full is a world and what fills memory in it, byte by byte another letter; no file is open behind it, and the stack is empty.
func full() (world, string) {
	text := ""
	for k, name := range strings.Fields("k l m n") {
		text += fmt.Sprintf("open %s; push %d; push 9; read; push 0; close; pop; pop; ", name, 8*k)
	}
	return world{tree: "k=ABCDEFGH l=IJKLMNOP m=QRSTUVWX n=YZabcdef a=123"}, strings.TrimSuffix(text, "; ")
}

// letters is what memory has then.
const letters = "ABCDEFGHIJKLMNOPQRSTUVWXYZabcdef"

// TestWrite: bytes of memory, from an address on, as many as a count says, which is the top, to a descriptor's file: how many.
func TestWrite(t *testing.T) {
	w, fill := full()
	for _, x := range []struct{ ahead, text, want string }{
		{"open a", "push 0; push 0; push 1; write", "A23"},
		{"open a", "push 0; push 5; push 3; write", "FGH"},
		{"open a", "push 0; push 3; push 5; write", "DEFGH"},
		{"open a", "push 0; push 20; push 8; write", "UVWXYZab"},
		{"open a; push 2; seek", "push 0; push 4; push 2; write", "12EF"},
		{"open a; push 5; seek", "push 0; push 4; push 2; write", "123__EF"},
		{"open a; push 5; seek", "push 0; push 4; push 9; write", "123__EFG"},
		{"open a; push 30; push 2; write", "push 0; push 7; push 2; write", "efHI"},
		{"open c; open a", "push 1; push 7; push 2; write", "HI3"},
		{"open a", "push 0; push 7; push 0; write", "123"},
	} {
		want := []byte(strings.ReplaceAll(x.want, "_", "\x00"))
		text := fill + "; " + cleared(x.ahead) + x.text + "; open a; push 0; push 9; read"
		w.holds(t, text, 0, append(want, letters[len(want):]...)...)
	}
	w.all(t, `
		open a | push 0; push 0; push 1; write -> 1
		open a | push 0; push 0; push 8; write -> 8
		open a | push 0; push 0; push 9; write -> 8
		open a | push 0; push 0; push 32; write -> 8
		open a; push 7; seek | push 0; push 0; push 5; write -> 1
		open a; push 8; seek | push 0; push 0; push 1; write -> NoSpace
		open a; push 255; seek | push 0; push 31; push 1; write -> NoSpace
		open a; push 8; seek | push 0; push 0; push 0; write -> 0
		open a | push 0; push 9; push 0; write -> 0
		| push 0; push 0; push 1; write -> BadFd
		| push 0; push 0; push 0; write -> BadFd
		open a | push 1; push 0; push 1; write -> BadFd`)
}

// TestWriteLeavesMemory: nothing in it is another behind a write.
func TestWriteLeavesMemory(t *testing.T) {
	w, fill := full()
	for _, text := range []string{"push 0; push 8; write", "push 24; push 8; write", "push 7; push 0; write"} {
		w.holds(t, fill+"; open a; "+text, 0, []byte(letters)...)
	}
}

// TestWriteAtTheEdge: bytes that end at Memory are in it, and with one more it ends Outside, though no more of them would fit into the file.
func TestWriteAtTheEdge(t *testing.T) {
	w := world{tree: "a=12345"}
	for at := range 34 {
		for _, count := range []int{1, 2, 3, 8, 9, 31, 32, 33, 255, 65503, 65504, 65505, 65534, 65535} {
			for seek, most := range map[int]int{0: 8, 6: 2, 7: 1} {
				text := fmt.Sprintf("open a; push %d; seek; pop; push 0; push %d; push %d; write; exit", seek, at, count)
				if n := min(count, most); at+count <= 32 {
					w.plays(t, text, fmt.Sprintf("0 %d %d Exited %[2]d, 9 done", seek, n))
				} else {
					w.plays(t, text, fmt.Sprintf("0 %d Outside, 8 done", seek))
				}
			}
		}
	}
}

// TestWriteOutsideFirst: ahead of BadFd and of NoSpace, without an Event, and nothing is written.
func TestWriteOutsideFirst(t *testing.T) {
	for _, at := range afar {
		for _, count := range []int{1, 2, 8, 32, 65535} {
			bytes := fmt.Sprintf("push %d; push %d; write; exit", at, count)
			w := world{tree: "a=abc"}
			w.plays(t, "push 3; out; push 0; "+bytes, "!3 Outside, 6 done")
			w.plays(t, "push 65535; "+bytes, "Outside, 4 done")
			w.plays(t, "open a; "+bytes, "0 Outside, 4 done")
			w.plays(t, "open a; push 8; seek; pop; push 0; "+bytes, "0 8 Outside, 8 done")
		}
	}
	for _, at := range []int{31, 30} {
		world{}.plays(t, fmt.Sprintf("push 9; push %d; push %d; write; exit", at, 33-at), "Outside, 4 done")
		world{}.plays(t, fmt.Sprintf("push 9; push %d; push %d; write; exit", at, 32-at), "BadFd Exited 9, 5 done")
	}
}

// TestWriteNothing: of no bytes no address is Outside.
func TestWriteNothing(t *testing.T) {
	for _, at := range append(afar, 0, 31) {
		world{tree: "a=abcdef"}.all(t, strings.ReplaceAll(`
			open a | push 0; push AT; push 0; write -> 0
			open a; push 8; seek | push 0; push AT; push 0; write -> 0
			| push 0; push AT; push 0; write -> BadFd
			open a | push 9; push AT; push 0; write -> BadFd`, "AT", fmt.Sprint(at)))
	}
}

// TestReadAndWrite: a file's bytes by way of memory to another.
func TestReadAndWrite(t *testing.T) {
	w := world{tree: "a=abcdef d/"}
	w.holds(t, "open a; push 9; push 4; read; open d/b; push 9; push 4; write; open d/b; push 20; push 8; read", 9, []byte("abcd\x00\x00\x00\x00\x00\x00\x00abcd")...)
}

// TestMovesFail: Next is asked ahead of Outside and of the file system's answer.
func TestMovesFail(t *testing.T) {
	for _, op := range []string{"read", "write"} {
		for _, bytes := range []string{"push 0; push 4", "push 32; push 4", "push 65535; push 65535", "push 31; push 2", "push 40; push 0"} {
			for _, fd := range []int{0, 1, 9} {
				text := fmt.Sprintf("open a; pop; push 44; push %d; %s; %s; pop; exit", fd, bytes, op)
				world{tree: "a=abc", fails: "01"}.plays(t, text, "0 IoError Exited 44, 9 done")
			}
		}
	}
	world{fails: "0"}.plays(t, "push 0; push 32; push 1; write; exit", "Outside, 4 done")
	if x, _, _ := (world{fails: "1"}).of(code("push 0; push 32; push 1; write; bye"), 9).answer(t); len(x.L) != 1 || x.L[0] != (api.Event{Val: api.IoError}) {
		t.Errorf("%+v", x)
	}
}
