package prog

import (
	"bytes"
	"fmt"
	"slices"
	"strings"
	"testing"

	"crossroads/api"
	"crossroads/inst"
)

// anyOp is an instruction's number as a byte may tell it, from 0 to this.
const anyOp = 255

// program is the Prog of these names, and of these instructions: an Op and its A, and so on.
func program(names []string, l ...int) api.Prog {
	p := api.Prog{Names: names}
	for i := 0; i < len(l); i += 2 {
		p.L = append(p.L, api.Inst{Op: l[i], A: l[i+1]})
	}
	return p
}

// pops is so many instructions, and names so many names, of which none is to be refused.
func pops(n int) []api.Inst { return slices.Repeat([]api.Inst{{Op: api.IPop}}, n) }

func names(n int) []string { return slices.Repeat([]string{"a"}, n) }

// long is a name of n bytes.
func long(n int) string { return strings.Repeat("n", n) }

// each is all that may stand in a program, but of those that have one of many numbers only some: the least, the greatest, and those about a byte's bounds.
func each() []api.Inst {
	var l []api.Inst
	for op := range anyOp + 1 {
		for _, a := range []int{0, 1, 2, 7, 8, 9, 10, 63, 95, 99, 100, 254, 255, 256, 257, 511, 512, 1000, 0x1234, 0x7fff, 0x8000, 9999, 10000, 0xff00, 0xfffe, 0xffff} {
			if i := (api.Inst{Op: op, A: a}); inst.May(i) {
				l = append(l, i)
			}
		}
	}
	return l
}

// show is p as a failure tells it: its names quoted, as they may be any bytes.
func show(p api.Prog) string { return fmt.Sprintf("%v %q", p.L, p.Names) }

// same tells whether two programs are, be their lists nil or empty.
func same(p, q api.Prog) bool {
	return slices.Equal(p.L, q.L) && slices.Equal(p.Names, q.Names)
}

// written fails the test where Bytes of p is not want, or Read of that not p.
func written(t *testing.T, p api.Prog, want ...byte) {
	t.Helper()
	if b, e := Bytes(p); e != api.OK || !bytes.Equal(b, want) {
		t.Errorf("Bytes(%v) = %v, %d; want %v", show(p), b, int(e), want)
	}
	read(t, want, p)
}

// read fails the test where Read of b is not want.
func read(t *testing.T, b []byte, want api.Prog) {
	t.Helper()
	if p, e := Read(b); e != api.OK || !same(p, want) {
		t.Errorf("Read(%v) = %v, %d; want %v", b, show(p), int(e), show(want))
	}
}

// taken answers Bytes of p, and fails the test where it is refused, or Read of it is not p.
func taken(t *testing.T, p api.Prog) []byte {
	t.Helper()
	b, e := Bytes(p)
	if e != api.OK {
		t.Fatalf("Bytes(%v): %d", show(p), int(e))
	}
	read(t, b, p)
	return b
}

// refused fails the test where Bytes of p answers anything but want.
func refused(t *testing.T, p api.Prog, want api.Errno) {
	t.Helper()
	if b, e := Bytes(p); e != want || len(b) != 0 {
		t.Errorf("Bytes of %d instructions, %d names = %v, %d; want nothing, %d", len(p.L), len(p.Names), b, int(e), int(want))
	}
}

// unread fails the test where Read of b answers anything but want.
func unread(t *testing.T, b []byte, want api.Errno) {
	t.Helper()
	if p, e := Read(b); e != want || len(p.L) != 0 || len(p.Names) != 0 {
		t.Errorf("Read(%v) = %v, %d; want nothing, %d", b, show(p), int(e), int(want))
	}
}

// rough writes p as Bytes would if it refused nothing, but for how many names and how many instructions it says there are.
func rough(count, code int, p api.Prog) []byte {
	b := []byte{88, 82, byte(count)}
	for _, s := range p.Names {
		b = append(append(b, byte(len(s))), s...)
	}
	b = append(b, byte(code))
	for _, i := range p.L {
		b = append(b, byte(i.Op), byte(i.A/256), byte(i.A%256))
	}
	return b
}

// raw is p as rough writes it, with as many as there are.
func raw(p api.Prog) []byte { return rough(len(p.Names), len(p.L), p) }
