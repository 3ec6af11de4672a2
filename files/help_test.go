package files_test

import (
	"fmt"
	"slices"
	"strconv"
	"strings"
	"testing"

	"crossroads/api"
	"crossroads/files"
	"crossroads/room"
)

// paths are those that are looked at: of one part and of two, of which some are in what is a directory in one tree and a file in another.
var paths = []string{
	"a", "b", "c", "d", "e", "f", "g", "h", "x", "y", "z",
	"d/a", "d/b", "d/c", "d/d", "d/x", "e/a", "e/b", "e/x", "a/a", "a/x", "x/a",
}

// noNames are texts that names.May refuses; of some a part would be well.
var noNames = []string{"", "/", ".", "..", "a/", "/a", "d/", "d//b", "d/b/c", "d/..", "./a", "A", "d b", "é", "\xff", "abcdefghi", "d/bcdefgh", strings.Repeat("d", 256)}

// words are the numbers that a call answers when it is refused.
var words = map[string]uint16{
	"NoEntry": api.NoEntry, "BadFd": api.BadFd, "Exists": api.Exists, "NotDir": api.NotDir, "IsDir": api.IsDir,
	"Invalid": api.Invalid, "ManyFds": api.ManyFds, "NoSpace": api.NoSpace, "NotEmpty": api.NotEmpty,
}

// told is a number as a text: its word, if it has one.
func told(n uint16) string {
	for word, m := range words {
		if n == m {
			return word
		}
	}
	return strconv.Itoa(int(n))
}

// shown is bytes as a text, with _ for noughts.
func shown(b []byte) string { return strings.ReplaceAll(string(b), "\x00", "_") }

// calls are what files and their model have in common.
type calls interface {
	Open(path string) uint16
	Close(fd uint16) uint16
	Read(fd, n uint16) ([]byte, uint16)
	Write(fd uint16, b []byte) uint16
	Seek(fd, at uint16) uint16
	Size(fd uint16) uint16
	Unlink(path string) uint16
	Rename(from, to string) uint16
	Mkdir(path string) uint16
	Rmdir(path string) uint16
	List(path string) uint16
	Trunc(fd, n uint16) uint16
	Twin(fd uint16) uint16
	Data(path string) ([]byte, uint16)
}

// A call is a method's name, and what it is called with: paths, a descriptor and a number, bytes.
type call struct {
	what     string
	path, to string
	fd, n    uint16
	b        string
}

// of is what x answers, a number or its word, with the bytes ahead of it if there are some.
func (c call) of(x calls) string {
	var b []byte
	var n uint16
	switch c.what {
	case "open":
		n = x.Open(c.path)
	case "close":
		n = x.Close(c.fd)
	case "read":
		b, n = x.Read(c.fd, c.n)
	case "write":
		n = x.Write(c.fd, room.Bytes(c.b))
	case "seek":
		n = x.Seek(c.fd, c.n)
	case "size":
		n = x.Size(c.fd)
	case "unlink":
		n = x.Unlink(c.path)
	case "rename":
		n = x.Rename(c.path, c.to)
	case "mkdir":
		n = x.Mkdir(c.path)
	case "rmdir":
		n = x.Rmdir(c.path)
	case "list":
		n = x.List(c.path)
	case "trunc":
		n = x.Trunc(c.fd, c.n)
	case "twin":
		n = x.Twin(c.fd)
	case "data":
		b, n = x.Data(c.path)
	default:
		panic("no call: " + c.what)
	}
	return strings.TrimSpace(shown(b) + " " + told(n))
}

// parsed is the call of a text: its name, and what it is called with, in the order of the chapter.
func parsed(text string) call {
	w := append(strings.Fields(text), "", "", "")
	c := call{what: w[0]}
	switch w[0] {
	case "open", "unlink", "rename", "mkdir", "rmdir", "list", "data":
		c.path, c.to = w[1], w[2]
		return c
	case "write":
		c.b = w[2]
	case "read", "seek", "trunc":
		c.n = number(w[2])
	}
	c.fd = number(w[1])
	return c
}

// number is that of a text.
func number(text string) uint16 {
	n, err := strconv.ParseUint(text, 10, 16)
	if err != nil {
		panic(err)
	}
	return uint16(n)
}

// tested is files, how they came to be, and the test that fails where they answer another than they should.
type tested struct {
	*testing.T
	*files.Files
	from string
	done []call
}

// grown is the files of entries of that text, which New has to take.
func grown(t *testing.T, from string) *tested {
	t.Helper()
	f, e := files.New(room.Entries(from))
	if f == nil || e != api.OK {
		t.Fatalf("New(%s) = %v, %d", from, f, int(e))
	}
	return &tested{T: t, Files: f, from: from}
}

// do is what is answered to a call, which is kept in mind; where it is refused, or only asks, all has to be as it was.
func (k *tested) do(c call) string {
	k.Helper()
	got := c.of(k.Files)
	ahead := slices.Clip(k.done)
	k.done = append(ahead, c)
	if words[got] != 0 || slices.Contains([]string{"size", "list", "data"}, c.what) {
		if was, now := look(k.from, ahead), look(k.from, k.done); now != was {
			k.Errorf("behind %+v, which answered %s, there was\n%s and is\n%s", c, got, was, now)
		}
	}
	return got
}

// plays fails the test where one of the calls in text's lines is not answered by what stands behind its colon.
func (k *tested) plays(text string) *tested {
	k.Helper()
	for line := range strings.Lines(text) {
		what, want, two := strings.Cut(strings.TrimSpace(line), ": ")
		if !two {
			continue
		}
		if got := k.do(parsed(what)); got != strings.TrimSpace(want) {
			k.Errorf("%s behind %+v: %s, want %s", what, k.done[:len(k.done)-1], got, want)
		}
	}
	return k
}

// plays is files grown of one text on which the calls of another were made.
func plays(t *testing.T, from, text string) *tested {
	t.Helper()
	return grown(t, from).plays(text)
}

// has fails the test where a path does not have its bytes: "a=xyz b=" says that a has xyz, and b nothing.
func (k *tested) has(text string) *tested {
	k.Helper()
	for _, s := range strings.Fields(text) {
		path, bytes, _ := strings.Cut(s, "=")
		want := strings.TrimSpace(bytes + " 0")
		if got := k.do(call{what: "data", path: path}); got != want {
			k.Errorf("data %s behind %+v: %s, want %s", path, k.done[:len(k.done)-1], got, want)
		}
	}
	return k
}

// refuses fails the test where one of these calls, of one of these paths, is not refused with that word.
func (k *tested) refuses(word, calls string, paths ...string) {
	k.Helper()
	for _, what := range strings.Fields(calls) {
		for _, path := range paths {
			c := call{what: what, path: path, to: "a"}
			if got := k.do(c); got != word {
				k.Errorf("%+v behind %+v: %s, want %s", c, k.done[:len(k.done)-1], got, word)
			}
		}
	}
}

// look is all that a call could tell behind those that were made: what each of some rows of calls is answered, each row on files of its own.
func look(from string, made []call) string {
	var b strings.Builder
	for _, row := range rows() {
		l, data := room.Entries(from)
		f, _ := files.New(l, data)
		for _, c := range made {
			c.of(f)
		}
		for _, c := range row {
			if got := c.of(f); got != "BadFd" && got != "NoEntry" && got != "NotDir" {
				fmt.Fprintf(&b, "%s %s %d %d: %s; ", c.what, c.path, c.fd, c.n, got)
			}
		}
	}
	return b.String()
}

// rows are calls that tell all: what is at each path; how far each descriptor is; what it has, and who else has it; whose offset goes with it; what may still be opened and made.
func rows() [][]call {
	var at, open, dirs, gone []call
	for _, path := range paths {
		at = append(at, call{what: "data", path: path}, call{what: "list", path: path})
		open = append(open, call{what: "open", path: path})
		dirs = append(dirs, call{what: "mkdir", path: path})
	}
	for fd := range uint16(api.MaxFds) {
		gone = append(gone, call{what: "seek", fd: fd}, call{what: "read", fd: fd, n: 99})
	}
	all := [][]call{at, open, dirs}
	for fd := range uint16(api.MaxFds) {
		mark := []call{{what: "write", fd: fd, b: "?"}, {what: "seek", fd: fd}, {what: "read", fd: fd, n: 99}}
		all = append(all, append([]call{{what: "size", fd: fd}}, mark...))
		all = append(all, slices.Concat([]call{{what: "seek", fd: fd}}, mark, at, gone))
		for other := range uint16(api.MaxFds) {
			mark := []call{{what: "write", fd: other, b: "?"}, {what: "seek", fd: other}, {what: "read", fd: other, n: 99}}
			for n := range uint16(2) {
				all = append(all, append([]call{{what: "seek", fd: fd, n: n}}, mark...))
			}
		}
	}
	return all
}
