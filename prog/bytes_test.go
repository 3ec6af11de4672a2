package prog

import (
	"bytes"
	"math"
	"slices"
	"strings"
	"testing"

	"crossroads/api"
	"crossroads/inst"
)

// P10.1: Bytes. What it writes is read again too, by written and taken.

func TestTheExample(t *testing.T) {
	written(t, api.Prog{}, 88, 82, 0, 0)
	written(t, api.Prog{L: []api.Inst{}, Names: []string{}}, 88, 82, 0, 0)
}

// TestBytes: each part in its place.
func TestBytes(t *testing.T) {
	written(t, program(nil, api.IPush, 7, api.IExit, 0), 88, 82, 0, 2, 1, 0, 7, 26, 0, 0)
	written(t, program([]string{"a"}), 88, 82, 1, 1, 'a', 0)
	written(t, program([]string{"bc", "", "d"}), 88, 82, 3, 2, 'b', 'c', 0, 1, 'd', 0)
	written(t, program([]string{"c", "ab/c"}, api.IOpen, 1, api.IRename, 8, api.IZero, 95, api.IExit, 0),
		88, 82, 2, 1, 'c', 4, 'a', 'b', '/', 'c', 4, 27, 0, 1, 34, 0, 8, 23, 0, 95, 26, 0, 0)
}

// TestBytesOfNames: a name's length is in bytes; what they are does not matter, nor whether one is there twice.
func TestBytesOfNames(t *testing.T) {
	written(t, program([]string{""}), 88, 82, 1, 0, 0)
	written(t, program([]string{"", "", ""}), 88, 82, 3, 0, 0, 0, 0)
	written(t, program([]string{"x", "x"}), 88, 82, 2, 1, 'x', 1, 'x', 0)
	written(t, program([]string{"\x00\xff\n", "\xc3\xa4", "ä", "\xc3", "/../A B"}),
		88, 82, 5, 3, 0, 255, 10, 2, 0xc3, 0xa4, 2, 0xc3, 0xa4, 1, 0xc3, 7, '/', '.', '.', '/', 'A', ' ', 'B', 0)
	for x := range 256 {
		written(t, program([]string{string([]byte{byte(x)})}), 88, 82, 1, 1, byte(x), 0)
	}
}

// TestBytesOfLongNames: 255 bytes are taken, and their length is written as any other.
func TestBytesOfLongNames(t *testing.T) {
	for _, n := range []int{1, api.MaxName, api.MaxName + 1, 100, 127, 128, 254, 255} {
		b := taken(t, program([]string{long(n), "z"}, api.IPop, 0))
		want := append(append([]byte{88, 82, 2, byte(n)}, long(n)...), 1, 'z', 1, 2, 0, 0)
		if !bytes.Equal(b, want) {
			t.Errorf("a name of %d: %v", n, b)
		}
	}
	wide := strings.Repeat("ä", 127)
	taken(t, program([]string{wide + "n"}))
	refused(t, program([]string{wide + "ä"}), api.ErrName)
}

// TestBytesOfNumbers: all of A, the higher byte first.
func TestBytesOfNumbers(t *testing.T) {
	for a := range 1 << 16 {
		written(t, program(nil, api.IPush, a), 88, 82, 0, 1, 1, byte(a/256), byte(a%256))
	}
	written(t, program(nil, api.IPush, 0x1234), 88, 82, 0, 1, 1, 0x12, 0x34)
}

// TestBytesOfEach: each instruction by its number, alone and with others.
func TestBytesOfEach(t *testing.T) {
	seen := map[int]bool{}
	for _, i := range each() {
		seen[i.Op] = true
		written(t, program(nil, i.Op, i.A), 88, 82, 0, 1, byte(i.Op), byte(i.A/256), byte(i.A%256))
	}
	if len(seen) != 41 {
		t.Errorf("%d instructions", len(seen))
	}
	for l := range slices.Chunk(each(), api.MaxCode) {
		p := api.Prog{L: l, Names: []string{"q", ""}}
		if b := taken(t, p); !bytes.Equal(b, raw(p)) {
			t.Errorf("Bytes(%v) = %v", show(p), b)
		}
	}
}

// TestBytesOfMany: as many as may be, and each fewer.
func TestBytesOfMany(t *testing.T) {
	for n := range api.MaxCode + 1 {
		p := api.Prog{L: pops(n), Names: names(n % (api.MaxNames + 1))}
		if b := taken(t, p); !bytes.Equal(b, raw(p)) {
			t.Errorf("%d instructions: %v", n, b)
		}
	}
	b := taken(t, api.Prog{L: pops(96), Names: slices.Repeat([]string{long(255)}, 8)})
	if len(b) != 3+8*256+1+96*3 || b[2] != 8 || b[3+8*256] != 96 {
		t.Errorf("all there may be: %v", b)
	}
}

// TestBytesFull: one more than there may be, and many more.
func TestBytesFull(t *testing.T) {
	for _, n := range []int{97, 98, 255, 256, 257, 256 + 96, 1 << 16} {
		refused(t, api.Prog{L: pops(n)}, api.ErrFull)
		refused(t, api.Prog{L: pops(n), Names: names(8)}, api.ErrFull)
	}
	for _, n := range []int{9, 10, 255, 256, 257, 256 + 8, 1 << 16} {
		refused(t, api.Prog{Names: names(n)}, api.ErrFull)
		refused(t, api.Prog{L: pops(96), Names: names(n)}, api.ErrFull)
	}
	refused(t, api.Prog{L: pops(97), Names: names(9)}, api.ErrFull)
}

// TestBytesName: a name of 256 bytes and more, wherever it stands.
func TestBytesName(t *testing.T) {
	for _, n := range []int{256, 257, 511, 512, 1 << 16} {
		for at := range api.MaxNames {
			l := names(api.MaxNames)
			l[at] = long(n)
			refused(t, api.Prog{Names: l}, api.ErrName)
			refused(t, api.Prog{L: pops(96), Names: l[:at+1]}, api.ErrName)
		}
	}
}

// strange are instructions that may not be.
func strange() []api.Inst {
	var l []api.Inst
	for _, op := range []int{0, 42, 255, 256, 257, 256 + api.IPop, -1, -255, math.MinInt, math.MaxInt} {
		l = append(l, api.Inst{Op: op}, api.Inst{Op: op, A: 1})
	}
	for op := range anyOp + 1 {
		for _, a := range []int{-1, 1, 8, 64, 96, 256, 65535, 65536, 1 << 32, -1 << 16, math.MinInt, math.MaxInt} {
			if i := (api.Inst{Op: op, A: a}); !inst.May(i) {
				l = append(l, i)
			}
		}
	}
	return l
}

// TestBytesOp: one that may not be, wherever it stands.
func TestBytesOp(t *testing.T) {
	for _, i := range strange() {
		refused(t, program(nil, i.Op, i.A), api.ErrOp)
		for _, at := range []int{0, 1, 50, api.MaxCode - 1} {
			l := pops(api.MaxCode)
			l[at] = i
			refused(t, api.Prog{L: l, Names: names(8)}, api.ErrOp)
		}
	}
}

// TestBytesFirst: ErrFull is told ahead of ErrName, and that ahead of ErrOp.
func TestBytesFirst(t *testing.T) {
	bad := api.Inst{Op: api.IPop, A: 1}
	for _, q := range []struct {
		p    api.Prog
		want api.Errno
	}{
		{api.Prog{L: append(pops(96), bad)}, api.ErrFull},
		{api.Prog{L: append([]api.Inst{bad}, pops(96)...)}, api.ErrFull},
		{api.Prog{L: pops(97), Names: []string{long(256)}}, api.ErrFull},
		{api.Prog{L: append([]api.Inst{bad}, pops(96)...), Names: []string{long(256)}}, api.ErrFull},
		{api.Prog{Names: append(names(8), long(256))}, api.ErrFull},
		{api.Prog{Names: append([]string{long(256)}, names(8)...)}, api.ErrFull},
		{api.Prog{L: []api.Inst{bad}, Names: names(9)}, api.ErrFull},
		{api.Prog{L: []api.Inst{bad}, Names: append([]string{long(256)}, names(8)...)}, api.ErrFull},
		{api.Prog{L: []api.Inst{bad}, Names: []string{long(256)}}, api.ErrName},
		{api.Prog{L: append([]api.Inst{bad}, pops(95)...), Names: append(names(7), long(256))}, api.ErrName},
		{api.Prog{L: append(pops(95), bad), Names: append(names(7), long(255))}, api.ErrOp},
	} {
		refused(t, q.p, q.want)
	}
}
