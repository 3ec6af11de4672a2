package tree_test

import (
	"fmt"
	"slices"
	"strings"
	"testing"

	"crossroads/api"
	"crossroads/tree"
)

const file, dir = false, true // what is made, dropped and found

// paths are those that are looked at: of one part and of two, of which some are in what is a directory in one tree and a file in another.
var paths = []string{
	"a", "b", "c", "d", "e", "f", "g", "h", "i", "x", "y", "z",
	"d/a", "d/b", "d/c", "d/d", "d/e", "d/f", "d/g", "d/h", "d/x", "e/a", "e/b", "e/d", "e/e", "a/a", "a/b", "b/a", "x/a", "x/b", "y/a",
}

// noNames are texts that names.May refuses, of each kind; of some a part would be well.
var noNames = []string{
	"", "/", "//", ".", "..", "a/", "/a", "d/", "/d", "d//b", "d/b/", "/d/b", "d/b/c", "d/.", "d/..", "./a", "../d", "./d/b", "d/./b",
	"A", "D", "d/B", "D/b", "d b", " d", "d ", "d\x00", "\x00", "d\\b", "d-b", "é", "d/é", "\xff", "abcdefghi", "d/bcdefgh", "abcdefgh/", "a/cdefghi",
	strings.Repeat("d", 256), strings.Repeat("d/", 128), strings.Repeat("a", 260),
}

// entryOf is the entry of that text: its path, with a stroke behind it if it is a directory.
func entryOf(text string) api.Entry {
	path, isDir := strings.CutSuffix(text, "/")
	return api.Entry{Path: path, Dir: isDir}
}

// entries are those of such texts, with blanks between them.
func entries(text string) []api.Entry {
	var l []api.Entry
	for _, s := range strings.Fields(text) {
		l = append(l, entryOf(s))
	}
	return l
}

// tested is a tree, and the test that fails where it answers another than it should.
type tested struct {
	*testing.T
	*tree.Tree
}

// grown is the tree of entries of that text, which New has to take.
func grown(t *testing.T, text string) tested {
	t.Helper()
	tr, e := tree.New(entries(text))
	if tr == nil || e != api.OK {
		t.Fatalf("New(%s) = %v, %d", text, tr, int(e))
	}
	return tested{t, tr}
}

// copied is a copy of it.
func (k tested) copied() tested {
	return tested{k.T, k.Tree.Copy()}
}

// look is all that a tree tells: of each path, how many there are, and the number of what would be made next.
func look(t *tree.Tree) string {
	var b strings.Builder
	for _, path := range append(slices.Clone(paths), noNames...) {
		n, isDir, no := t.Find(path)
		if many := t.Many(path); no == 0 {
			fmt.Fprintf(&b, "%s %d %v %d; ", path, n, isDir, many)
		}
	}
	next := -1
	if c := t.Copy(); c != nil {
		for _, path := range paths { // where it is full, one that has nothing makes room
			if c.Len() == api.MaxEntries && c.Drop(path, file) != 0 {
				c.Drop(path, dir)
			}
		}
		for _, path := range paths[:9] { // one more than there may be: one of them is not there
			if next < 0 {
				next, _ = c.Make(path, file)
			}
		}
	}
	return fmt.Sprint(b.String(), t.Len(), " ", next)
}

// finds fails the test where Find does not answer that number and kind.
func (k tested) finds(path string, number int, isDir bool) {
	k.Helper()
	if n, d, no := k.Find(path); n != number || d != isDir || no != 0 {
		k.Errorf("Find(%q) = %d, %v, %#x; want %d, %v, 0", path, n, d, no, number, isDir)
	}
}

// lacks fails the test where Find does not answer -1, false and why; Many, which has Find's numbers, answers it too.
func (k tested) lacks(path string, why uint16) {
	k.Helper()
	if n, d, no := k.Find(path); n != -1 || d || no != why {
		k.Errorf("Find(%q) = %d, %v, %#x; want -1, false, %#x", path, n, d, no, why)
	}
	k.many(path, why)
}

// many fails the test where Many does not answer that, a number of entries or one of api's.
func (k tested) many(path string, want uint16) {
	k.Helper()
	k.same("Many", path, func() {
		if n := k.Many(path); n != want {
			k.Errorf("Many(%q) = %#x; want %#x", path, n, want)
		}
	})
}

// size fails the test where Len is another.
func (k tested) size(want int) {
	k.Helper()
	if n := k.Len(); n != want {
		k.Errorf("Len = %d; want %d", n, want)
	}
}

// makes fails the test where Make does not answer that number, or the path is not there then.
func (k tested) makes(path string, isDir bool, number int) {
	k.Helper()
	was := k.Len()
	if n, no := k.Make(path, isDir); n != number || no != 0 {
		k.Errorf("Make(%q, %v) = %d, %#x; want %d, 0", path, isDir, n, no, number)
	}
	k.finds(path, number, isDir)
	k.size(was + 1)
}

// drops fails the test where Drop does not answer 0, or the path is there then.
func (k tested) drops(path string, isDir bool) {
	k.Helper()
	was := k.Len()
	if no := k.Drop(path, isDir); no != 0 {
		k.Errorf("Drop(%q, %v) = %#x", path, isDir, no)
	}
	k.lacks(path, api.NoEntry)
	k.size(was - 1)
}

// moves fails the test where Move from one path to another does not answer that number and 0, or does not do it.
func (k tested) moves(from, to string, number int) {
	k.Helper()
	was := k.Len()
	moved, _, _ := k.Find(from)
	if n, no := k.Move(from, to); n != number || no != 0 {
		k.Errorf("Move(%q, %q) = %d, %#x; want %d, 0", from, to, n, no, number)
	}
	k.lacks(from, api.NoEntry)
	k.finds(to, moved, file)
	if number >= 0 {
		was--
	}
	k.size(was)
}

// same fails the test where what f calls changes the tree.
func (k tested) same(what, path string, f func()) {
	k.Helper()
	was := look(k.Tree)
	f()
	if now := look(k.Tree); now != was {
		k.Errorf("%s of %q: there was %s, and is %s", what, path, was, now)
	}
}

// makesNot fails the test where Make does not answer -1 and why, or changes the tree.
func (k tested) makesNot(path string, isDir bool, why uint16) {
	k.Helper()
	k.same("Make", path, func() {
		k.Helper()
		if n, no := k.Make(path, isDir); n != -1 || no != why {
			k.Errorf("Make(%q, %v) = %d, %#x; want -1, %#x", path, isDir, n, no, why)
		}
	})
}

// dropsNot fails the test where Drop does not answer why, or changes the tree.
func (k tested) dropsNot(path string, isDir bool, why uint16) {
	k.Helper()
	k.same("Drop", path, func() {
		k.Helper()
		if no := k.Drop(path, isDir); no != why {
			k.Errorf("Drop(%q, %v) = %#x; want %#x", path, isDir, no, why)
		}
	})
}

// movesNot fails the test where Move does not answer -1 and why, or changes the tree; why is 0 where both are one path.
func (k tested) movesNot(from, to string, why uint16) {
	k.Helper()
	k.same("Move", from+" "+to, func() {
		k.Helper()
		if n, no := k.Move(from, to); n != -1 || no != why {
			k.Errorf("Move(%q, %q) = %d, %#x; want -1, %#x", from, to, n, no, why)
		}
	})
}
