package prog

import (
	"bytes"
	"math/rand"
	"slices"
	"testing"

	"crossroads/api"
	"crossroads/inst"
)

// P10.1: Read. That it answers each Prog whose bytes it is given is held in bytes_test.go too, beside what they are.

// some is programs of many kinds.
func some() []api.Prog {
	return []api.Prog{
		{},
		program(nil, api.IPush, 0x1234, api.IExit, 0),
		program([]string{"a", "", "b/c"}, api.IOpen, 2, api.IClose, 0, api.IRename, 8, api.IExit, 0),
		program([]string{"", "\x00\xff", "XR"}),
		program([]string{string([]byte{0, 0, 88, 82, 0, 0})}, api.IPush, 88*256+82, api.IJump, 0),
		{L: pops(96), Names: slices.Repeat([]string{long(255)}, 8)},
	}
}

// TestReadOfRandom: whatever program.
func TestReadOfRandom(t *testing.T) {
	r := rand.New(rand.NewSource(10))
	all := each()
	for range 3000 {
		var p api.Prog
		for range r.Intn(api.MaxNames + 1) {
			name := make([]byte, r.Intn(256)*r.Intn(2))
			r.Read(name)
			p.Names = append(p.Names, string(name))
		}
		for range r.Intn(api.MaxCode + 1) {
			p.L = append(p.L, all[r.Intn(len(all))])
		}
		if b := taken(t, p); !bytes.Equal(b, raw(p)) {
			t.Fatalf("Bytes(%v) = %v", show(p), b)
		}
	}
}

func TestReadOfNothing(t *testing.T) {
	unread(t, nil, api.ErrForm)
	unread(t, []byte{}, api.ErrForm)
}

// TestReadOfLess: cut anywhere.
func TestReadOfLess(t *testing.T) {
	for _, p := range some() {
		b := taken(t, p)
		for n := range b {
			unread(t, b[:n:n], api.ErrForm)
			unread(t, b[:n], api.ErrForm) // what stands in the spare room is not of it
		}
	}
}

// TestReadOfMore: whatever stands behind the end, and how much of it.
func TestReadOfMore(t *testing.T) {
	for _, p := range some() {
		b := taken(t, p)
		for x := range 256 {
			unread(t, append(slices.Clone(b), byte(x)), api.ErrForm)
		}
		unread(t, append(slices.Clone(b), 2, 0, 0), api.ErrForm)
		unread(t, append(slices.Clone(b), b...), api.ErrForm)
		unread(t, append(slices.Clone(b), make([]byte, 1<<12)...), api.ErrForm)
	}
}

// TestReadOfOthers: other first bytes, and none of them.
func TestReadOfOthers(t *testing.T) {
	for _, p := range some() {
		b := taken(t, p)
		for x := range 256 {
			other := slices.Clone(b)
			if other[0] = byte(x); x != 88 {
				unread(t, other, api.ErrForm)
			}
			other[0], other[1] = 88, byte(x)
			if x != 82 {
				unread(t, other, api.ErrForm)
			}
		}
		for _, head := range [][]byte{{82, 88}, {'x', 'r'}, {0, 0}, {88}, {}, {0, 88, 82}, {88, 0, 82}} {
			unread(t, append(head, b[2:]...), api.ErrForm)
		}
	}
}

// TestReadOfCounts: what tells how many there are does not fit what is there.
func TestReadOfCounts(t *testing.T) {
	p := program([]string{"abc", "de"}, api.IPush, 0x0707, api.IPush, 0x0707) // no other length of abc lets the rest fit by chance
	for _, count := range []int{0, 1, 3, 8, 9, 255} {
		unread(t, rough(count, 2, p), api.ErrForm)
	}
	for _, code := range []int{0, 1, 3, 96, 97, 255} {
		unread(t, rough(2, code, p), api.ErrForm)
	}
	for x := range 256 {
		b := raw(p)
		if b[3] = byte(x); x != 3 { // the first name's length
			unread(t, b, api.ErrForm)
		}
	}
}

// TestReadFull: more than there may be, but each in its form.
func TestReadFull(t *testing.T) {
	for n := range 256 {
		code, count := api.Prog{L: pops(n)}, api.Prog{Names: names(n)}
		if n <= api.MaxCode {
			read(t, raw(code), code)
		} else {
			unread(t, raw(code), api.ErrFull)
		}
		if n <= api.MaxNames {
			read(t, raw(count), count)
		} else {
			unread(t, raw(count), api.ErrFull)
		}
	}
	unread(t, raw(api.Prog{L: pops(97), Names: names(9)}), api.ErrFull)
	unread(t, raw(api.Prog{L: pops(255), Names: slices.Repeat([]string{long(255)}, 255)}), api.ErrFull)
}

// TestReadOp: of each three bytes that may be an instruction, those are taken that inst.May says yes of.
func TestReadOp(t *testing.T) {
	for op := range 256 {
		for a := range 1 << 16 {
			if a > 1<<10 && a < 1<<16-1<<10 && a%251 != 0 {
				continue
			}
			p := program(nil, op, a)
			if inst.May(p.L[0]) {
				read(t, raw(p), p)
			} else {
				unread(t, raw(p), api.ErrOp)
			}
		}
	}
	for at := range api.MaxCode {
		l := pops(api.MaxCode)
		l[at].A = 256
		unread(t, raw(api.Prog{L: l, Names: names(8)}), api.ErrOp)
	}
}

// TestReadFirst: ErrForm is told ahead of ErrFull, and that ahead of ErrOp.
func TestReadFirst(t *testing.T) {
	bad := api.Inst{Op: api.IPop, A: 1}
	code, count := append([]api.Inst{bad}, pops(96)...), names(9)
	for _, q := range []struct {
		p    api.Prog
		want api.Errno
	}{
		{api.Prog{L: code[:1]}, api.ErrOp},
		{api.Prog{L: code[:96], Names: count[:8]}, api.ErrOp},
		{api.Prog{L: code}, api.ErrFull},
		{api.Prog{L: code[:1], Names: count}, api.ErrFull},
		{api.Prog{L: code, Names: count}, api.ErrFull},
	} {
		b := raw(q.p)
		unread(t, b, q.want)
		for n := range b {
			unread(t, b[:n], api.ErrForm)
		}
		unread(t, append(slices.Clone(b), 0), api.ErrForm)
		b[0]++
		unread(t, b, api.ErrForm)
	}
	unread(t, []byte{88, 82, 9}, api.ErrForm)
	unread(t, []byte{88, 82, 0, 97}, api.ErrForm)
	unread(t, []byte{88, 82, 0, 1, 0, 0}, api.ErrForm)
}

// TestReadOfChanged: whatever bytes are, Read takes just those that Bytes makes of what it answers, and else says what Bytes would of what they tell.
func TestReadOfChanged(t *testing.T) {
	r := rand.New(rand.NewSource(11))
	kinds := map[api.Errno]int{}
	for range 200000 {
		p := program([]string{"a", ""}[:r.Intn(3)], api.IPush, r.Intn(1<<16), api.IRename, 9, api.IExit, 0)
		b := raw(p)
		for range r.Intn(3) {
			b[r.Intn(len(b))] = byte(r.Intn(100))
		}
		got, e := Read(b)
		kinds[e]++
		if e == api.OK {
			if again, e := Bytes(got); e != api.OK || !bytes.Equal(again, b) {
				t.Fatalf("Read(%v) = %v, and Bytes of that %v, %d", b, show(got), again, int(e))
			}
			continue
		}
		unread(t, b, e)
	}
	if kinds[api.OK] == 0 || kinds[api.ErrForm] == 0 || kinds[api.ErrOp] == 0 {
		t.Errorf("answers: %v", kinds)
	}
}

// FuzzRead: what is taken is what Bytes makes of it; nothing panics.
func FuzzRead(f *testing.F) {
	for _, p := range some() {
		f.Add(raw(p))
	}
	f.Fuzz(func(t *testing.T, b []byte) {
		p, e := Read(b)
		if e != api.OK {
			unread(t, b, e)
			return
		}
		if again := taken(t, p); !bytes.Equal(again, b) {
			t.Errorf("Read(%v) = %v, and Bytes of that %v", b, show(p), again)
		}
	})
}
