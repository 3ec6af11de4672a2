package tree_test

import (
	"slices"
	"strings"
	"testing"

	"crossroads/api"
	"crossroads/tree"
)

// P13.2, Find, Many and Len.

func TestFind(t *testing.T) {
	k := grown(t, "a d/ d/b e/ d/d e/b .a")
	k.finds("a", 0, file)
	k.finds("d", 1, dir)
	k.finds("d/b", 2, file)
	k.finds("e", 3, dir)
	k.finds("d/d", 4, file)
	k.finds("e/b", 5, file)
	k.finds(".a", 6, file)
}

// TestFindNoName: whatever would be there if it were one, and though what stands ahead of a stroke is a file.
func TestFindNoName(t *testing.T) {
	k := grown(t, "a d/ d/b abcdefgh")
	for _, path := range append([]string{"a/", "a/.", "a/..", "a//b", "a/b/c", "a/B", "a/cdefghi", "abcdefgh/x"}, noNames...) {
		k.lacks(path, api.NoEntry)
	}
}

// TestGreatPaths: of a great text nothing but its size matters.
func TestGreatPaths(t *testing.T) {
	k := grown(t, "a d/ d/b")
	was := look(k.Tree)
	for _, part := range []string{"a", "/", "d/", "a/b", ".", "\xff"} {
		path := strings.Repeat(part, 1<<20)
		_, _, found := k.Find(path)
		_, made := k.Make(path, file)
		_, from := k.Move(path, "a")
		_, to := k.Move("a", path)
		_, e := tree.New([]api.Entry{{Path: path}})
		if no := []uint16{found, made, from, to, k.Drop(path, file), k.Many(path)}; slices.ContainsFunc(no, func(n uint16) bool { return n != api.NoEntry }) || e != api.ErrClass {
			t.Errorf("many times %q: %#x, %d", part, no, int(e))
		}
	}
	if now := look(k.Tree); now != was {
		t.Errorf("there was %s, and is %s", was, now)
	}
}

// TestFindNotThere: of no directory, and of one that is there.
func TestFindNotThere(t *testing.T) {
	k := grown(t, "a d/ d/b e/ e/c")
	for _, path := range []string{"b", "c", "aa", "dd", "x", "d/a", "d/c", "d/d", "d/e", "d/bb", "e/b", "e/d", "e/e"} {
		k.lacks(path, api.NoEntry)
	}
	grown(t, "").lacks("a", api.NoEntry)
}

// TestFindNoDirectory: it is not there, though the last part is, somewhere.
func TestFindNoDirectory(t *testing.T) {
	k := grown(t, "a d/ d/b")
	for _, path := range []string{"x/a", "x/b", "b/a", "b/b", "x/d", "dd/b"} {
		k.lacks(path, api.NoEntry)
	}
	grown(t, "").lacks("d/b", api.NoEntry)
}

// TestFindInFile: what stands ahead of the stroke is a file of no directory; one in a directory, of that name, is not meant.
func TestFindInFile(t *testing.T) {
	k := grown(t, "a d/ d/b c")
	for _, path := range []string{"a/a", "a/b", "a/d", "c/a", "c/x"} {
		k.lacks(path, api.NotDir)
	}
	k.lacks("b/a", api.NoEntry)
	k.lacks("b/b", api.NoEntry)
}

// TestFindGoesAlong: what was a file is a directory, then nothing, then a file.
func TestFindGoesAlong(t *testing.T) {
	k := grown(t, "x")
	k.lacks("x/a", api.NotDir)
	k.drops("x", file)
	k.lacks("x/a", api.NoEntry)
	k.makes("x", dir, 1)
	k.lacks("x/a", api.NoEntry)
	k.makes("x/a", file, 2)
	k.drops("x/a", file)
	k.drops("x", dir)
	k.lacks("x/a", api.NoEntry)
	k.makes("x", file, 3)
	k.lacks("x/a", api.NotDir)
}

// TestManyOfDirectories: of one that is empty, of those that are not, of one that is full; what is elsewhere is not counted.
func TestManyOfDirectories(t *testing.T) {
	k := grown(t, "d/ a e/ e/a e/d x/ e/x")
	k.many("d", 0)
	k.many("e", 3)
	k.many("x", 0)
	k.makes("d/e", file, 7)
	k.many("d", 1)
	k.many("e", 3)
	k = grown(t, "d/ d/a d/b d/c d/d d/e d/f d/g")
	k.many("d", 7)
	k = grown(t, "a b c d/ e f g h")
	k.many("d", 0)
	k = grown(t, "d/ dd/ dd/a d.d/ d.d/b d/d")
	k.many("d", 1)
	k.many("dd", 1)
	k.many("d.d", 1)
}

// TestManyOfOthers: Find's numbers, and NotDir of a file.
func TestManyOfOthers(t *testing.T) {
	k := grown(t, "a d/ d/b d/d")
	for _, path := range []string{"a", "d/b", "d/d", "a/b", "a/x"} {
		k.many(path, api.NotDir)
	}
	for _, path := range append([]string{"x", "d/x", "x/a", "b", "a/", "a/b/c"}, noNames...) {
		k.many(path, api.NoEntry)
	}
}

// TestManyGoesAlong: with what is made, dropped and moved, into the directory, out of it and within it.
func TestManyGoesAlong(t *testing.T) {
	k := grown(t, "d/ e/ a b")
	k.makes("d/a", file, 4)
	k.many("d", 1)
	k.moves("a", "d/b", -1)
	k.many("d", 2)
	k.moves("b", "d/b", 2)
	k.many("d", 2)
	k.moves("d/a", "d/c", -1)
	k.many("d", 2)
	k.moves("d/c", "d/b", 3)
	k.many("d", 1)
	k.moves("d/b", "e/b", -1)
	k.many("d", 0)
	k.many("e", 1)
	k.moves("e/b", "b", -1)
	k.many("e", 0)
	k.movesNot("b", "e", api.IsDir)
	k.makesNot("e/a", dir, api.Invalid)
	k.many("e", 0)
	k.makes("e/a", file, 5)
	k.many("e", 1)
	k.drops("e/a", file)
	k.many("e", 0)
	k.drops("e", dir)
	k.many("e", api.NoEntry)
}

// TestLen: behind each call, one that is refused too; files and directories count alike.
func TestLen(t *testing.T) {
	k := grown(t, "a d/ d/b")
	for _, step := range []struct {
		c    call
		want int
	}{
		{call{what: "Make", path: "e", dir: dir}, 4},
		{call{what: "Make", path: "e/a"}, 5},
		{call{what: "Make", path: "e/a"}, 5},
		{call{what: "Make", path: "e/b", dir: dir}, 5},
		{call{what: "Make", path: "x/b"}, 5},
		{call{what: "Find", path: "e/a"}, 5},
		{call{what: "Many", path: "e"}, 5},
		{call{what: "Move", path: "a", to: "e/c"}, 5},
		{call{what: "Move", path: "e/c", to: "e/c"}, 5},
		{call{what: "Move", path: "e/c", to: "d"}, 5},
		{call{what: "Move", path: "e/c", to: "d/b"}, 4},
		{call{what: "Drop", path: "e", dir: dir}, 4},
		{call{what: "Drop", path: "e/a", dir: dir}, 4},
		{call{what: "Drop", path: "e/a"}, 3},
		{call{what: "Drop", path: "e/a"}, 3},
		{call{what: "Drop", path: "e"}, 3},
		{call{what: "Drop", path: "e", dir: dir}, 2},
		{call{what: "Drop", path: "d/b"}, 1},
		{call{what: "Drop", path: "d", dir: dir}, 0},
	} {
		step.c.of(k.Tree)
		if k.Len() != step.want {
			t.Fatalf("behind %+v Len is %d; want %d", step.c, k.Len(), step.want)
		}
	}
}
