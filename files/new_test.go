package files_test

import (
	"strings"
	"testing"

	"crossroads/api"
	"crossroads/files"
	"crossroads/room"
)

// P14.1, New and descriptors.

// TestNewData: each file has its row, in their order, wherever directories stand.
func TestNewData(t *testing.T) {
	for _, text := range []string{
		"a=abc b=de c=f",
		"c=abc b=de a=f",
		"a=1 b=2 c=3 d=4 e=5 f=6 g=7 h=8",
		"d/ e/ a=xyz",
		"d/ d/b=one b=two",
		"b=two d/ d/b=one",
		"a=abc d/ b=d e/ d/b=efghijkl c= e/a=_m_ e/b=n",
		"a= b=x c=",
	} {
		var files []string
		for s := range strings.FieldsSeq(text) {
			if !strings.HasSuffix(s, "/") {
				files = append(files, s)
			}
		}
		grown(t, text).has(strings.Join(files, " "))
	}
}

// TestNewNothing: none of either, rows without bytes, nil rows.
func TestNewNothing(t *testing.T) {
	for _, data := range [][][]byte{nil, {}} {
		news(t, "", data, api.OK)
		news(t, "d/ e/", data, api.OK)
	}
	for _, row := range [][]byte{nil, {}, {0}, {255}} {
		news(t, "a", [][]byte{row}, api.OK)
	}
	grown(t, "").plays(`
		mkdir d: 0
		open d/a: 0
		data d/a: 0`)
}

// news fails the test where New does not answer that error, beside nil but where all is well.
func news(t *testing.T, from string, data [][]byte, want api.Errno) {
	t.Helper()
	l, _ := room.Entries(from)
	if f, e := files.New(l, data); e != want || (f == nil) != (want != api.OK) {
		t.Errorf("New(%s, %q) = %v, %d; want %d", from, data, f, int(e), int(want))
	}
}

// rowsOf are n rows of that text.
func rowsOf(n int, text string) [][]byte {
	l := make([][]byte, n)
	for i := range l {
		l[i] = []byte(text)
	}
	return l
}

// TestNewRows: as many as files, one less and one more; directories have none.
func TestNewRows(t *testing.T) {
	for _, x := range []struct {
		from  string
		files int
	}{
		{"", 0}, {"a", 1}, {"a b", 2}, {"d/", 0}, {"d/ e/ f/", 0}, {"d/ a", 1}, {"a d/", 1}, {"d/ d/a e/ d/b", 2}, {"a d/ b e/ c", 3},
		{"a b c d e f g h", 8}, {"a/ b/ c/ d/ e/ f/ g/ h/", 0}, {"d/ d/a d/b d/c d/d d/e d/f d/g", 7},
	} {
		for n := range 12 {
			for _, text := range []string{"", "x", "12345678"} {
				want := api.ErrInput
				if n == x.files {
					want = api.OK
				}
				news(t, x.from, rowsOf(n, text), want)
			}
		}
	}
	news(t, "a", nil, api.ErrInput)
	news(t, "", [][]byte{nil}, api.ErrInput)
	news(t, "d/", [][]byte{nil}, api.ErrInput)
}

// TestNewSizes: as long as may be and one longer, wherever the row stands; much longer.
func TestNewSizes(t *testing.T) {
	for i := range 3 {
		for size := range 12 {
			data := rowsOf(3, "12345678")
			data[i] = []byte(strings.Repeat("x", size))
			want := api.OK
			if size > 8 {
				want = api.ErrInput
			}
			news(t, "a d/ d/b e/ c", data, want)
		}
	}
	news(t, "a", [][]byte{make([]byte, 1<<20)}, api.ErrInput)
	news(t, "a b", [][]byte{make([]byte, 9)}, api.ErrInput)
	news(t, "a", [][]byte{nil, make([]byte, 9)}, api.ErrInput)
}

// TestNewTree: what tree.New refuses, ahead of what is wrong with data.
func TestNewTree(t *testing.T) {
	for _, from := range []string{
		"a b c d e f g h i", "d/ d/a d/b d/c d/d d/e d/f d/g d/h", "a/ b/ c/ d/ e/ f/ g/ h/ i/", // more than MaxEntries
		"A", "a B", "..", "abcdefghi", "d/ d/bcdefgh", "d/ d//b", // no names
		"d/a", "d/a d/", "a a/b", "d/ e/a", // its directory is not ahead
		"d/ d/e/", "e/f/", // a directory that is deeper
		"a a", "a a/", "a/ a", "d/ d/", "d/ d/a d/a", // one path twice
	} {
		l, data := room.Entries(from)
		news(t, from, data, api.ErrClass)
		news(t, from, nil, api.ErrClass)
		news(t, from, rowsOf(len(l)+1, "x"), api.ErrClass)
		news(t, from, rowsOf(len(data), "123456789"), api.ErrClass)
	}
	news(t, "A", nil, api.ErrClass)
	if f, e := files.New([]api.Entry{{}}, [][]byte{nil}); f != nil || e != api.ErrClass {
		t.Errorf("New of an entry without a path = %v, %d", f, int(e))
	}
}

// TestNewCaps: an entry's cap says nothing of what its file has.
func TestNewCaps(t *testing.T) {
	for _, most := range []int{-1, 0, 1, 3, 9, 1 << 40} {
		f, e := files.New([]api.Entry{{Path: "a", Cap: most}, {Path: "d", Dir: true, Cap: most}}, [][]byte{[]byte("12345678")})
		if got := (call{what: "data", path: "a"}).of(f); e != api.OK || got != "12345678 0" {
			t.Errorf("with cap %d: %s, %d", most, got, int(e))
		}
	}
}

// TestDescriptors: those that may be, each from when it is answered till it is closed.
func TestDescriptors(t *testing.T) {
	plays(t, "a=x", `
		size 0: BadFd
		open a: 0
		size 0: 1
		size 1: BadFd
		open a: 1
		open a: 2
		size 2: 1
		size 3: BadFd
		open a: 3
		size 3: 1
		size 4: BadFd
		close 3: 0
		size 3: BadFd
		size 2: 1`)
}

// TestOffsets: twins share one, what is opened for itself has its own, though it is the same file.
func TestOffsets(t *testing.T) {
	plays(t, "a=12345678 b=abcdefgh", `
		open a: 0
		open a: 1
		twin 0: 2
		open b: 3
		read 0 3: 123 3
		read 1 1: 1 1
		read 2 1: 4 1
		read 3 2: ab 2
		read 0 1: 5 1
		seek 2 1: 1
		read 0 1: 2 1
		read 1 1: 2 1
		seek 1 7: 7
		read 2 1: 3 1
		read 3 1: c 1
		write 0 x: 1
		read 2 1: 5 1
		read 1 9: 8 1`).has("a=123x5678 b=abcdefgh")
}
