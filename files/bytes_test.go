package files_test

import (
	"fmt"
	"strings"
	"testing"

	"crossroads/api"
)

// P14.2, Size, Seek, Trunc, Read and Write.

// TestExample is the chapter's.
func TestExample(t *testing.T) {
	plays(t, "", `
		open a: 0
		write 0 xyz: 3
		seek 0 1: 1
		read 0 9: yz 2`)
}

// TestSize: its file's, wherever the offset is, and as it grows and is cut, through other descriptors too.
func TestSize(t *testing.T) {
	plays(t, "a=abc b c=12345678", `
		open a: 0
		open b: 1
		open c: 2
		open a: 3
		size 0: 3
		size 1: 0
		size 2: 8
		seek 0 200: 200
		size 0: 3
		write 3 x: 1
		size 0: 3
		seek 3 5: 5
		write 3 x: 1
		size 0: 6
		trunc 0 2: 0
		size 3: 2
		trunc 3 8: 0
		size 0: 8
		trunc 2 0: 0
		size 2: 0
		size 1: 0`)
}

// TestSeek: every number to 255, wherever the file ends; none above it.
func TestSeek(t *testing.T) {
	k := plays(t, "a=abc", "open a: 0")
	for at := range uint16(256) {
		if n := k.Seek(0, at); n != at {
			t.Errorf("Seek(0, %d) = %#x", at, n)
		}
	}
	k.plays("read 0 9: 0")
	for _, at := range []uint16{256, 257, 258, 511, 512, 1 << 15, 65279, 65280, 65282, 65534, 65535} {
		k = plays(t, "a=abc", "open a: 0\nread 0 1: a 1")
		if n := k.do(call{what: "seek", n: at}); n != "Invalid" {
			t.Errorf("seek 0 %d: %s", at, n)
		}
		k.plays("read 0 9: bc 2")
	}
}

// TestSeekIs: at is the offset, of whatever it was; from the beginning, not from there.
func TestSeekIs(t *testing.T) {
	plays(t, "a=abcdefgh", `
		open a: 0
		seek 0 3: 3
		read 0 1: d 1
		seek 0 2: 2
		read 0 9: cdefgh 6
		seek 0 7: 7
		read 0 9: h 1
		seek 0 8: 8
		read 0 9: 0
		seek 0 255: 255
		seek 0 256: Invalid
		read 0 1: 0
		write 0 x: NoSpace
		seek 0 0: 0
		read 0 1: a 1`).has("a=abcdefgh")
}

// TestTruncCuts: to each number of bytes.
func TestTruncCuts(t *testing.T) {
	const text = "abcdefgh"
	for n := range len(text) + 1 {
		k := plays(t, "a="+text, "open a: 0\nread 0 2: ab 2")
		k.plays(fmt.Sprintf("trunc 0 %d: 0\nsize 0: %d", n, n)).has("a=" + text[:n])
	}
}

// TestTruncFills: to each number of bytes, with noughts alone, also where others stood.
func TestTruncFills(t *testing.T) {
	for has := range api.MaxSize + 1 {
		for n := has; n <= api.MaxSize; n++ {
			text := strings.Repeat("x", has)
			want := text + strings.Repeat("_", n-has)
			plays(t, "a="+text, fmt.Sprintf("open a: 0\ntrunc 0 %d: 0\nsize 0: %d", n, n)).has("a=" + want)
			plays(t, "a=abcdefgh", fmt.Sprintf("open a: 0\ntrunc 0 %d: 0\ntrunc 0 %d: 0\nsize 0: %d", has, n, n)).has("a=" + "abcdefgh"[:has] + want[has:])
		}
	}
}

// TestTruncBounds: MaxSize, and beyond.
func TestTruncBounds(t *testing.T) {
	plays(t, "a=abc b", `
		open a: 0
		trunc 0 9: Invalid
		trunc 0 10: Invalid
		trunc 0 255: Invalid
		trunc 0 256: Invalid
		trunc 0 264: Invalid
		trunc 0 65535: Invalid
		size 0: 3
		trunc 0 8: 0
		size 0: 8
		trunc 0 9: Invalid`).has("a=abc_____ b=")
}

// TestTruncOffsets: they stay where they are, in the file, at its end and behind it, of all that have it open.
func TestTruncOffsets(t *testing.T) {
	plays(t, "a=abcdefgh", `
		open a: 0
		open a: 1
		twin 0: 2
		read 0 6: abcdef 6
		read 1 1: a 1
		trunc 1 2: 0
		read 0 9: 0
		read 1 9: b 1
		trunc 2 8: 0
		read 0 1: _ 1
		read 1 2: __ 2
		trunc 0 0: 0
		write 0 z: 1
		size 1: 8
		read 1 9: ___z 4`).has("a=_______z")
}

// TestRead: at most that many, at most what there is, from the offset on, which goes along.
func TestRead(t *testing.T) {
	plays(t, "a=abcdefgh b=xyz", `
		open a: 0
		read 0 1: a 1
		read 0 0: 0
		read 0 2: bc 2
		read 0 5: defgh 5
		read 0 1: 0
		seek 0 5: 5
		read 0 4: fgh 3
		read 0 4: 0
		seek 0 6: 6
		read 0 2: gh 2
		seek 0 0: 0
		read 0 8: abcdefgh 8
		seek 0 0: 0
		read 0 9: abcdefgh 8
		seek 0 0: 0
		read 0 65535: abcdefgh 8
		open b: 1
		read 1 65535: xyz 3
		read 1 65535: 0`).has("a=abcdefgh b=xyz")
}

// TestReadEnd: at the end and beyond it nothing is read, and the offset stays.
func TestReadEnd(t *testing.T) {
	plays(t, "a=abc b", `
		open a: 0
		seek 0 3: 3
		read 0 9: 0
		read 0 0: 0
		seek 0 5: 5
		read 0 9: 0
		read 0 65535: 0
		write 0 x: 1
		data a: abc__x 0
		seek 0 255: 255
		read 0 65535: 0
		write 0 x: NoSpace
		open b: 1
		read 1 9: 0
		write 1 x: 1
		data b: x 0`)
}

// TestReadAll: of each file, from each offset, each number of bytes.
func TestReadAll(t *testing.T) {
	const text = "abcdefgh"
	for size := range len(text) + 1 {
		for at := range 12 {
			for _, n := range []int{0, 1, 2, 5, 7, 8, 9, 255, 256, 65535 - at, 65535} {
				from := min(at, size)
				to := min(at+n, size)
				k := grown(t, "a="+text[:size])
				k.Open("a")
				k.Seek(0, uint16(at))
				b, m := k.Read(0, uint16(n))
				if want := text[from:max(from, to)]; string(b) != want || int(m) != len(want) {
					t.Errorf("of %d bytes at %d Read(0, %d) = %q, %d; want %q", size, at, n, b, m, want)
				}
			}
		}
	}
}

// TestWrite: over what is there, across its end, behind it.
func TestWrite(t *testing.T) {
	plays(t, "a=abcd b", `
		open a: 0
		write 0 x: 1
		data a: xbcd 0
		write 0 yz: 2
		data a: xyzd 0
		write 0 12: 2
		data a: xyz12 0
		write 0 3: 1
		data a: xyz123 0
		seek 0 0: 0
		write 0 abc: 3
		read 0 9: 123 3
		open b: 1
		write 1 12345678: 8`).has("a=abc123 b=12345678")
}

// TestWriteNothing: 0 at any offset, and the file is not longer therefore.
func TestWriteNothing(t *testing.T) {
	for _, from := range []string{"a", "a=abc", "a=abcdefgh"} {
		for _, at := range []uint16{0, 2, 3, 5, 7, 8, 9, 255} {
			k := plays(t, from, "open a: 0")
			k.do(call{what: "seek", n: at})
			was := look(from, k.done)
			for _, b := range [][]byte{nil, {}, make([]byte, 0, 9)} {
				if n := k.Write(0, b); n != 0 {
					t.Errorf("%s at %d: Write of nothing = %#x", from, at, n)
				}
			}
			k.plays("write 0: 0")
			if now := look(from, k.done); now != was {
				t.Errorf("%s at %d: Write of nothing: there was\n%s and is\n%s", from, at, was, now)
			}
			k.plays(fmt.Sprintf("size 0: %d", len(from[min(2, len(from)):])))
		}
	}
}

// TestWriteBounds: up to MaxSize, across it, at it and beyond it.
func TestWriteBounds(t *testing.T) {
	plays(t, "a=abcdefgh b=1234567 c=123", `
		open a: 0
		seek 0 7: 7
		write 0 x: 1
		write 0 y: NoSpace
		write 0: 0
		seek 0 7: 7
		write 0 yz: 1
		write 0 yz: NoSpace
		seek 0 9: 9
		write 0 y: NoSpace
		seek 0 255: 255
		write 0 y: NoSpace
		write 0: 0
		seek 0 0: 0
		write 0 123456789: 8
		write 0 1: NoSpace
		open b: 1
		seek 1 7: 7
		write 1 xyz: 1
		write 1 z: NoSpace
		open c: 2
		read 2 9: 123 3
		write 2 4567890123456789: 5
		write 2 z: NoSpace`).has("a=12345678 b=1234567x c=12345678")
}

// TestWriteGap: noughts ahead of it, where the file ended ahead, also where others stood once.
func TestWriteGap(t *testing.T) {
	plays(t, "a=ab b c=abcdefgh", `
		open a: 0
		seek 0 3: 3
		write 0 x: 1
		data a: ab_x 0
		seek 0 7: 7
		write 0 yz: 1
		data a: ab_x___y 0
		open b: 1
		seek 1 7: 7
		write 1 z: 1
		data b: _______z 0
		open c: 2
		trunc 2 1: 0
		seek 2 5: 5
		write 2 xy: 2
		data c: a____xy 0
		trunc 2 6: 0
		trunc 2 7: 0
		data c: a____x_ 0
		read 2 9: 0`)
}

// TestWriteAll: each number of bytes, at each offset, of each file.
func TestWriteAll(t *testing.T) {
	const text, more = "abcdefgh", "0123456789"
	for size := range len(text) + 1 {
		for at := range 12 {
			for n := 1; n <= len(more); n++ {
				want := text[:size]
				fits := max(0, min(n, api.MaxSize-at))
				if fits > 0 {
					want += strings.Repeat("_", max(0, at-size))
					want = want[:at] + more[:fits] + want[min(at+fits, len(want)):]
				}
				k := grown(t, "a="+text[:size])
				k.Open("a")
				k.Seek(0, uint16(at))
				m := k.Write(0, []byte(more[:n]))
				b, _ := k.Data("a")
				if no := fits == 0 && m == api.NoSpace; !no && (fits == 0 || int(m) != fits) || shown(b) != want {
					t.Errorf("to %d bytes at %d Write of %d = %#x, and they are %s; want %d, %s", size, at, n, m, shown(b), fits, want)
				}
			}
		}
	}
}

// TestWriteGreat: of great lists nothing but what fits matters.
func TestWriteGreat(t *testing.T) {
	for _, n := range []int{255, 256, 264, 65535, 65536, 65537, 1 << 20} {
		k := plays(t, "a", "open a: 0\nopen a: 1\nseek 1 6: 6")
		b := []byte(strings.Repeat("x", n))
		if m := k.Write(0, b); m != 8 {
			t.Errorf("Write of %d bytes = %#x", n, m)
		}
		if m := k.Write(1, b); m != 2 {
			t.Errorf("Write of %d bytes at 6 = %#x", n, m)
		}
		if m := k.Write(1, b); m != api.NoSpace {
			t.Errorf("Write of %d bytes at 8 = %#x", n, m)
		}
		if b, _ := k.Data("a"); string(b) != "xxxxxxxx" {
			t.Errorf("behind Write of %d bytes: %q", n, b)
		}
	}
}

// TestBytes: all of them are as good as others.
func TestBytes(t *testing.T) {
	for i := range 256 {
		k := plays(t, "a", "open a: 0")
		k.Write(0, []byte{byte(i), byte(i + 1)})
		k.Seek(0, 0)
		b, _ := k.Read(0, 1)
		if d, _ := k.Data("a"); b[0] != byte(i) || d[1] != byte(i+1) {
			t.Errorf("%d: read %v, data %v", i, b, d)
		}
	}
}
