package files_test

import (
	"bytes"
	"slices"
	"testing"

	"crossroads/api"
	"crossroads/files"
	"crossroads/room"
)

// R4: what is handed in and what is answered shares no memory with what is kept; R7: nil.

// fill writes over all that is in a list and in its room.
func fill(b []byte) {
	b = b[:cap(b)]
	for i := range b {
		b[i] = '!'
	}
}

// roomy is data of three files, with spare room everywhere.
func roomy() [][]byte {
	rows := [][]byte{room.Bytes("abc"), make([]byte, 0, 16), room.Bytes("12345678")}
	return append(rows, []byte("more"))[:3]
}

// lengthy is all that is in lists, and in their room.
func lengthy(rows [][]byte) []byte {
	var all []byte
	for _, b := range rows[:cap(rows)] {
		all = append(append(all, b[:cap(b)]...), '|')
	}
	return all
}

// TestNewKeepsNothing: what becomes of l and data afterwards does not show, and calls do not show in them.
func TestNewKeepsNothing(t *testing.T) {
	l, _ := room.Entries("a d/ b c")
	data := roomy()
	was, wasL := lengthy(data), slices.Clone(l)
	f, _ := files.New(l, data)
	for _, text := range []string{"open a", "open b", "open c", "write 0 xyz12", "write 1 12345678", "write 2 x", "trunc 0 2", "trunc 0 8", "trunc 2 1", "rename a b", "unlink c"} {
		parsed(text).of(f)
	}
	if now := lengthy(data); !bytes.Equal(now, was) || !slices.Equal(l, wasL) {
		t.Errorf("data was %q and is %q, and l is %v", was, now, l)
	}

	f, _ = files.New(l, data)
	for _, b := range data[:cap(data)] {
		fill(b)
	}
	l[0].Path, l[1].Path, l[1].Dir, data[0], data[1] = "x", "y", false, nil, []byte("new")
	k := &tested{T: t, Files: f, from: "a=abc d/ b c=12345678"}
	k.has("a=abc b= c=12345678").plays("data x: NoEntry\nlist d: 0")
	k.plays("open a: 0\nseek 0 4: 4\nwrite 0 d: 1").has("a=abc_d")
}

// TestNewRefusedLeaves: what is handed in is not changed where it is refused, too.
func TestNewRefusedLeaves(t *testing.T) {
	for _, from := range []string{"a", "a b c d", "a A b"} {
		l, _ := room.Entries(from)
		data := roomy()
		was, wasL := lengthy(data), slices.Clone(l)
		if f, e := files.New(l, data); f != nil || e == api.OK || !bytes.Equal(lengthy(data), was) || !slices.Equal(l, wasL) {
			t.Errorf("New of %s = %v, %d; data was %q and is %q", from, f, int(e), was, lengthy(data))
		}
	}
}

// TestWriteKeepsNothing: what becomes of b afterwards does not show, and calls do not show in it.
func TestWriteKeepsNothing(t *testing.T) {
	for _, text := range []string{"x", "xyz", "12345678", "123456789ab"} {
		k := plays(t, "a=abc", "open a: 0")
		b := room.Bytes(text)
		was := slices.Clone(b[:cap(b)])
		k.Write(0, b)
		want, _ := k.Data("a")
		k.Trunc(0, 8)
		k.Seek(0, 0)
		k.Write(0, []byte("?"))
		k.Trunc(0, 0)
		if !bytes.Equal(b[:cap(b)], was) {
			t.Errorf("%q was handed in, and is %q", was, b[:cap(b)])
		}
		k.Seek(0, 0)
		k.Write(0, []byte("abc"))
		k.Seek(0, 0)
		k.Write(0, b)
		fill(b)
		if now, _ := k.Data("a"); !bytes.Equal(now, want) {
			t.Errorf("behind Write of %s: %q, and is %q when that was filled", text, want, now)
		}
	}
}

// TestAnswersAreNew: what is done to what Read and Data answered does not show, and calls do not show in it.
func TestAnswersAreNew(t *testing.T) {
	for _, from := range []string{"a", "a=abc", "a=12345678"} {
		for _, at := range []uint16{0, 2, 8} {
			k := plays(t, from, "open a: 0")
			ask := func() [][]byte {
				k.Seek(0, at)
				one, _ := k.Read(0, 1)
				k.Seek(0, at)
				all, _ := k.Read(0, 99)
				d, _ := k.Data("a")
				return [][]byte{one, all, d}
			}
			want := [][]byte{}
			for _, b := range ask() {
				want = append(want, slices.Clone(b))
			}
			for _, i := range []int{0, 1, 2} { // each is filled while the others are looked at
				got, later := ask(), ask()
				fill(got[i])
				for j := range 3 {
					if i != j && !bytes.Equal(got[j], want[j]) || !bytes.Equal(later[j], want[j]) || !bytes.Equal(ask()[j], want[j]) {
						t.Errorf("%s at %d: answers were %q, and are %q and %q when answer %d was filled", from, at, want, got, later, i)
					}
				}
			}
			got := ask()
			k.Seek(0, 0)
			k.Write(0, []byte("????????"))
			k.Trunc(0, 0)
			if !slices.EqualFunc(got, want, bytes.Equal) {
				t.Errorf("%s at %d: answers were %q, and are %q when the file was changed", from, at, want, got)
			}
		}
	}
}

// TestNewFilesAreApart: two of one list and data.
func TestNewFilesAreApart(t *testing.T) {
	l, data := room.Entries("a=abc d/ b=de")
	x, _ := files.New(l, data)
	y, _ := files.New(l, data)
	for _, text := range []string{"open a", "write 0 xyz", "mkdir e", "unlink b"} {
		parsed(text).of(x)
	}
	k := &tested{T: t, Files: y, from: "a=abc d/ b=de"}
	k.has("a=abc b=de").plays("size 0: BadFd\nlist e: NoEntry")
}

// TestNil: zero values, whatever it is asked; the same of what New did not make.
func TestNil(t *testing.T) {
	for _, f := range []*files.Files{nil, new(files.Files)} {
		for _, path := range append([]string{"a", "d/b"}, noNames...) {
			for _, what := range []string{"open", "unlink", "rename", "mkdir", "rmdir", "list", "data"} {
				for _, to := range []string{path, "c", ""} {
					c := call{what: what, path: path, to: to}
					if got := c.of(f); got != "0" {
						t.Errorf("%+v: %s", c, got)
					}
				}
			}
			if b, no := f.Data(path); b != nil || no != 0 {
				t.Errorf("Data(%q) = %v, %d", path, b, no)
			}
		}
		for _, fd := range []uint16{0, 1, 3, 4, 65535} {
			for _, c := range all {
				c.fd = fd
				if got := c.of(f); got != "0" {
					t.Errorf("%+v: %s", c, got)
				}
			}
			if b, no := f.Read(fd, 9); b != nil || no != 0 {
				t.Errorf("Read(%d, 9) = %v, %d", fd, b, no)
			}
		}
	}
}
