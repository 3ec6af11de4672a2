package files_test

import (
	"fmt"
	"math/rand"
	"strings"
	"testing"

	"crossroads/api"
	"crossroads/names"
	"crossroads/room"
)

// A node is a file or a directory; a spot is what is open, with an offset.
type node struct {
	dir   bool
	bytes []byte
}

type spot struct {
	file *node
	at   int
}

// model is the chapter word by word, over pointers: what files are held against.
type model struct {
	at  map[string]*node
	fds [api.MaxFds]*spot
}

// modelOf is the model of entries of that text.
func modelOf(from string) *model {
	m := &model{at: map[string]*node{}}
	l, data := room.Entries(from)
	for _, e := range l {
		x := &node{dir: e.Dir}
		if !e.Dir {
			x.bytes = append(x.bytes, data[0]...)
			data = data[1:]
		}
		m.at[e.Path] = x
	}
	return m
}

// place is why nothing can be at path; 0, if something can.
func (m *model) place(path string) uint16 {
	above, _, two := strings.Cut(path, "/")
	switch {
	case !names.May(path):
		return api.NoEntry
	case !two:
		return 0
	case m.at[above] == nil:
		return api.NoEntry
	case !m.at[above].dir:
		return api.NotDir
	}
	return 0
}

// find is what is at path, or why there is nothing.
func (m *model) find(path string) (*node, uint16) {
	if no := m.place(path); no != 0 {
		return nil, no
	}
	if m.at[path] == nil {
		return nil, api.NoEntry
	}
	return m.at[path], 0
}

func (m *model) free() int {
	for i, s := range m.fds {
		if s == nil {
			return i
		}
	}
	return -1
}

// open is what is open as fd, or nil.
func (m *model) open(fd uint16) *spot {
	if int(fd) >= len(m.fds) {
		return nil
	}
	return m.fds[fd]
}

func (m *model) Open(path string) uint16 {
	x, _ := m.find(path)
	switch {
	case x != nil && x.dir:
		return api.IsDir
	case m.place(path) != 0:
		return m.place(path)
	case m.free() < 0:
		return api.ManyFds
	case x == nil && len(m.at) == 8:
		return api.NoSpace
	case x == nil:
		x = &node{}
		m.at[path] = x
	}
	fd := m.free()
	m.fds[fd] = &spot{file: x}
	return uint16(fd)
}

func (m *model) Close(fd uint16) uint16 {
	if m.open(fd) == nil {
		return api.BadFd
	}
	m.fds[fd] = nil
	return 0
}

func (m *model) Twin(fd uint16) uint16 {
	s, twin := m.open(fd), m.free()
	switch {
	case s == nil:
		return api.BadFd
	case twin < 0:
		return api.ManyFds
	}
	m.fds[twin] = s
	return uint16(twin)
}

func (m *model) Size(fd uint16) uint16 {
	if s := m.open(fd); s != nil {
		return uint16(len(s.file.bytes))
	}
	return api.BadFd
}

func (m *model) Seek(fd, at uint16) uint16 {
	s := m.open(fd)
	switch {
	case s == nil:
		return api.BadFd
	case at > 255:
		return api.Invalid
	}
	s.at = int(at)
	return at
}

func (m *model) Trunc(fd, n uint16) uint16 {
	s := m.open(fd)
	switch {
	case s == nil:
		return api.BadFd
	case n > 8:
		return api.Invalid
	}
	s.file.bytes = append(s.file.bytes, make([]byte, 8)...)[:n:n]
	return 0
}

func (m *model) Read(fd, n uint16) ([]byte, uint16) {
	s := m.open(fd)
	if s == nil {
		return nil, api.BadFd
	}
	var b []byte
	for len(b) < int(n) && s.at < len(s.file.bytes) {
		b = append(b, s.file.bytes[s.at])
		s.at++
	}
	return b, uint16(len(b))
}

func (m *model) Write(fd uint16, b []byte) uint16 {
	s := m.open(fd)
	switch {
	case s == nil:
		return api.BadFd
	case len(b) > 0 && s.at >= 8:
		return api.NoSpace
	}
	var n uint16
	for _, c := range b {
		if s.at == 8 {
			break
		}
		for len(s.file.bytes) <= s.at {
			s.file.bytes = append(s.file.bytes, 0)
		}
		s.file.bytes[s.at] = c
		s.at++
		n++
	}
	return n
}

func (m *model) Unlink(path string) uint16 {
	x, no := m.find(path)
	switch {
	case no != 0:
		return no
	case x.dir:
		return api.IsDir
	}
	delete(m.at, path)
	return 0
}

func (m *model) Rename(from, to string) uint16 {
	x, no := m.find(from)
	switch {
	case no != 0:
		return no
	case x.dir:
		return api.IsDir
	case m.place(to) != 0:
		return m.place(to)
	case m.at[to] != nil && m.at[to].dir:
		return api.IsDir
	}
	delete(m.at, from)
	m.at[to] = x
	return 0
}

func (m *model) Mkdir(path string) uint16 {
	switch {
	case m.place(path) != 0:
		return m.place(path)
	case m.at[path] != nil:
		return api.Exists
	case strings.Contains(path, "/"):
		return api.Invalid
	case len(m.at) == 8:
		return api.NoSpace
	}
	m.at[path] = &node{dir: true}
	return 0
}

func (m *model) Rmdir(path string) uint16 {
	switch n := m.List(path); {
	case n == 0:
		delete(m.at, path)
		return 0
	case n <= 8:
		return api.NotEmpty
	default:
		return n
	}
}

func (m *model) List(path string) uint16 {
	x, no := m.find(path)
	switch {
	case no != 0:
		return no
	case !x.dir:
		return api.NotDir
	}
	var n uint16
	for at := range m.at {
		if strings.HasPrefix(at, path+"/") {
			n++
		}
	}
	return n
}

func (m *model) Data(path string) ([]byte, uint16) {
	x, no := m.find(path)
	switch {
	case no != 0:
		return nil, no
	case x.dir:
		return nil, api.IsDir
	}
	return x.bytes, 0
}

// TestEachFewCalls: all short rows of some calls, behind some others.
func TestEachFewCalls(t *testing.T) {
	some := strings.Split("open a,open d/b,open x,close 0,close 1,twin 0,read 0 1,read 1 9,write 0 xy,write 1 12345678,seek 1 5,trunc 0 2,unlink a,rename a d/b,rename d/b a,rename d/b d/b,rmdir d,mkdir a", ",")
	asks := strings.Split("data a,data d/b,data x,size 0,size 1,size 2,list d,read 0 9,read 1 9,open a,open x,seek 0 0,seek 1 0,read 0 9,read 1 9,read 2 9", ",")
	var each func(from string, made []string, more int)
	each = func(from string, made []string, more int) {
		f, m := grown(t, from), modelOf(from)
		for _, text := range append(append([]string{}, made...), asks...) {
			c := parsed(text)
			if got, want := c.of(f.Files), c.of(m); got != want {
				t.Fatalf("%s of %s, behind %q: %s, want %s", text, from, made, got, want)
			}
		}
		for _, text := range some {
			if more > 0 {
				each(from, append(made[:len(made):len(made)], text), more-1)
			}
		}
	}
	for _, from := range []string{"", "a=abc d/ d/b=de", "a=abc d/ d/b=12345678 c e f g h"} {
		each(from, nil, 3)
	}
	for _, ahead := range []string{"open a", "open a,twin 0", "open a,open a", "open a,open d/b,unlink a", "open a,open d/b,rename a d/b", "open a,open a,open a,open d/b"} {
		each("a=abcd d/ d/b=efghijk", strings.Split(ahead, ","), 2)
	}
}

// TestRandomCalls: long rows of calls of any kind.
func TestRandomCalls(t *testing.T) {
	r := rand.New(rand.NewSource(14))
	kinds := strings.Fields("open open open close close read read write write write seek seek seek size unlink rename rename mkdir rmdir list trunc trunc twin data")
	at := []string{"a", "b", "c", "d", "e", "d/a", "d/b", "e/a", "e/e", "a/b", "b/a", "", "d/", "A"}
	answers := map[string]int{}
	for range 120 {
		from := []string{"", "a=abc b d/ d/a=12345678", "a b c d/ e/ d/a d/b e/a", "d/ e/"}[r.Intn(4)]
		f, m := grown(t, from), modelOf(from)
		for range 3000 {
			c := call{what: kinds[r.Intn(len(kinds))], path: at[r.Intn(10)], to: at[r.Intn(10)], fd: uint16(r.Intn(5)), n: uint16(r.Intn(11)), b: "0123456789"[r.Intn(10):]}
			switch r.Intn(12) {
			case 0:
				c.path, c.to = at[r.Intn(len(at))], at[r.Intn(len(at))]
			case 1:
				c.b, c.n = "", uint16(r.Intn(300))
			case 2:
				c.fd, c.n = uint16(r.Intn(1<<16)), uint16(r.Intn(1<<16))
			}
			got, want := c.of(f.Files), c.of(m)
			if got != want {
				t.Fatalf("%+v: %s, want %s", c, got, want)
			}
			if _, refused := words[got]; refused {
				got = c.what + " " + got
			} else {
				got = c.what
			}
			answers[got]++
		}
	}
	for _, want := range strings.Split("open,close,twin,open IsDir,open NotDir,open NoEntry,open ManyFds,open NoSpace,close BadFd,twin ManyFds,twin BadFd,seek Invalid,trunc Invalid,write NoSpace,rename,rename IsDir,mkdir,mkdir Invalid,mkdir NoSpace,rmdir,rmdir NotEmpty,list,data,unlink", ",") {
		if answers[want] < 30 {
			t.Errorf("%s came %d times: %s", want, answers[want], fmt.Sprint(answers))
		}
	}
}
