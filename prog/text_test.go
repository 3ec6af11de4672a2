package prog

import (
	"slices"
	"strconv"
	"strings"
	"testing"

	"crossroads/api"
	"crossroads/inst"
)

// told fails the test where Text of p is not want.
func told(t *testing.T, p api.Prog, want string) {
	t.Helper()
	if s := Text(p); s != want {
		t.Errorf("Text(%v) = %q, want %q", show(p), s, want)
	}
}

// P10.2

func TestTextOfNothing(t *testing.T) {
	told(t, api.Prog{}, "")
	told(t, api.Prog{L: []api.Inst{}}, "")
	told(t, api.Prog{Names: []string{"a", "b"}}, "")
}

// TestText: a line of each kind.
func TestText(t *testing.T) {
	told(t, program(nil, api.IPush, 7, api.IExit, 0), "0 push 7\n1 exit\n")
	told(t, program([]string{"a", "b"}, api.IOpen, 0, api.IClose, 1, api.IRename, 10, api.IClose, 0, 0, 0, api.IPush, 65535, api.IJump, 95),
		"0 open 0\n1 ?\n2 rename 10\n3 close\n4 ?\n5 push 65535\n6 jump 95\n")
}

// TestTextOfEach: of those alone that have one of many numbers it is told, and then if it is 0 too.
func TestTextOfEach(t *testing.T) {
	numbered := strings.Fields("push get set jump zero open unlink rename mkdir rmdir list")
	seen := map[string]bool{}
	for _, i := range each() {
		name := inst.Name(i.Op)
		seen[name] = true
		want := "0 " + name
		if slices.Contains(numbered, name) {
			want += " " + strconv.Itoa(i.A)
		}
		told(t, program(nil, i.Op, i.A), want+"\n")
	}
	if len(seen) != 41 {
		t.Errorf("%d instructions", len(seen))
	}
}

// TestTextOfNumbers: A of one digit and of more.
func TestTextOfNumbers(t *testing.T) {
	for a := range 1 << 16 {
		told(t, program(nil, api.IPush, a), "0 push "+strconv.Itoa(a)+"\n")
	}
	told(t, program(nil, api.IPush, 0, api.IPush, 9, api.IPush, 10, api.IPush, 99, api.IPush, 100, api.IPush, 12345),
		"0 push 0\n1 push 9\n2 push 10\n3 push 99\n4 push 100\n5 push 12345\n")
}

// TestTextOfPlaces: instructions' numbers of one digit and of more; there may be more than MaxCode.
func TestTextOfPlaces(t *testing.T) {
	for _, n := range []int{1, 9, 10, 11, 96, 97, 99, 100, 101, 1001, 10001} {
		want := ""
		l := pops(n)
		for i := range l {
			if want += strconv.Itoa(i); i%3 == 0 {
				l[i] = api.Inst{Op: api.IGet, A: i % 8}
				want += " get " + strconv.Itoa(i%8) + "\n"
			} else {
				want += " pop\n"
			}
		}
		told(t, api.Prog{L: l}, want)
	}
}

// TestTextOfStrange: of one that may not be neither its name nor its A is told.
func TestTextOfStrange(t *testing.T) {
	for _, i := range strange() {
		told(t, program(nil, i.Op, i.A), "0 ?\n")
		told(t, program(nil, api.IDup, 0, i.Op, i.A, api.IPush, 3), "0 dup\n1 ?\n2 push 3\n")
	}
}

// TestTextOfRefused: what Bytes refuses is told all the same.
func TestTextOfRefused(t *testing.T) {
	told(t, api.Prog{L: []api.Inst{{Op: api.IOpen, A: 7}}, Names: slices.Repeat([]string{long(256)}, 9)}, "0 open 7\n")
	told(t, program(nil, api.IOpen, 7, api.IOpen, 8, api.IJump, 95, api.IJump, 96), "0 open 7\n1 ?\n2 jump 95\n3 ?\n")
}
