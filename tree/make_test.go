package tree_test

import (
	"testing"

	"crossroads/api"
)

// P13.2, Make and Drop.

func TestMake(t *testing.T) {
	k := grown(t, "a d/")
	k.makes("b", file, 2)
	k.makes("e", dir, 3)
	k.makes("d/b", file, 4)
	k.makes("e/b", file, 5)
	k.makes("e/e", file, 6)
	k.makes("...", dir, 7)
	k.finds("a", 0, file)
	k.finds("d", 1, dir)
	k.finds("b", 2, file)
	k.finds("d/b", 4, file)
}

// TestMakeNoName: also behind what is a file, and though there would be no room.
func TestMakeNoName(t *testing.T) {
	for _, text := range []string{"", "a d/ d/b", "a b c d/ d/b f g h"} {
		k := grown(t, text)
		for _, path := range append([]string{"a/", "a/b/c", "a/B", "d/b/c"}, noNames...) {
			k.makesNot(path, file, api.NoEntry)
			k.makesNot(path, dir, api.NoEntry)
		}
	}
}

// TestMakeInFile: ahead of Invalid and NoSpace.
func TestMakeInFile(t *testing.T) {
	for _, text := range []string{"a", "a d/ d/b", "d/ a d/d d/b", "a b c d/ d/b f g h"} {
		k := grown(t, text)
		for _, path := range []string{"a/a", "a/b", "a/x"} {
			k.makesNot(path, file, api.NotDir)
			k.makesNot(path, dir, api.NotDir)
		}
	}
}

// TestMakeNoDirectory: ahead of Invalid and NoSpace.
func TestMakeNoDirectory(t *testing.T) {
	for _, text := range []string{"", "a d/ d/b", "d/ d/d d/b", "a b c d/ d/x f g h"} {
		k := grown(t, text)
		for _, path := range []string{"x/a", "x/b", "x/x", "dd/b"} {
			k.makesNot(path, file, api.NoEntry)
			k.makesNot(path, dir, api.NoEntry)
		}
	}
}

// TestMakeExists: whatever it is and whatever is to be made, ahead of Invalid and NoSpace.
func TestMakeExists(t *testing.T) {
	for _, text := range []string{"a d/ d/b d/d", "a b c d/ d/b d/d g h"} {
		k := grown(t, text)
		for _, path := range []string{"a", "d", "d/b", "d/d"} {
			k.makesNot(path, file, api.Exists)
			k.makesNot(path, dir, api.Exists)
		}
	}
}

// TestMakeDeepDirectory: ahead of NoSpace; a file may be made there.
func TestMakeDeepDirectory(t *testing.T) {
	for _, text := range []string{"d/", "a d/ d/b", "a b c d/ d/b f g h", "d/ d/a d/b d/c d/e d/f d/g d/h"} {
		k := grown(t, text)
		k.makesNot("d/x", dir, api.Invalid)
		k.makesNot("d/d", dir, api.Invalid)
	}
	grown(t, "a d/ d/b").makes("d/x", file, 3)
}

// TestMakeFull: a tree that is full, by New or by Make, of files, of directories, of what is in one.
func TestMakeFull(t *testing.T) {
	for _, text := range []string{"a b c d e f g h", "a/ b/ c/ d/ e/ f/ g/ h/", "d/ d/a d/b d/c d/d d/e d/f d/g", "a d/ d/a b d/b e/ e/d c"} {
		full(grown(t, text))
		k := grown(t, "")
		for i, e := range entries(text) {
			k.makes(e.Path, e.Dir, i)
		}
		full(k)
	}
}

// full fails the test where something can be made.
func full(k tested) {
	k.Helper()
	k.size(8)
	k.makesNot("new", file, api.NoSpace)
	k.makesNot("new", dir, api.NoSpace)
	if _, isDir, _ := k.Find("d"); isDir {
		k.makesNot("d/new", file, api.NoSpace)
	}
}

// TestMakeWasFull: whatever was dropped or moved upon, there is room for just as much.
func TestMakeWasFull(t *testing.T) {
	k := grown(t, "a d/ d/a b d/b e/ d/d c")
	full(k)
	k.drops("a", file)
	k.makes("d/x", file, 8)
	k.makesNot("a", file, api.NoSpace)
	k.drops("e", dir)
	k.makes("a", dir, 9)
	k.makesNot("y", file, api.NoSpace)
	k.moves("d/a", "b", 3)
	k.makes("y", file, 10)
	k.makesNot("d/a", file, api.NoSpace)
	k.moves("y", "d/a", -1) // nothing is out of the tree
	k.makesNot("y", file, api.NoSpace)
	k.movesNot("b", "b", 0)
	k.makesNot("y", file, api.NoSpace)
	k.drops("b", file)
	k.drops("c", file)
	k.makes("y", file, 11)
	k.makes("z", file, 12)
	full(k)
}

// TestDrop: files, and directories that have nothing, in any order that leaves none without its directory.
func TestDrop(t *testing.T) {
	k := grown(t, "a d/ d/b e/ e/b d/d")
	k.drops("d/b", file)
	k.finds("e/b", 4, file)
	k.drops("e/b", file)
	k.drops("e", dir)
	k.finds("d/d", 5, file)
	k.drops("d/d", file)
	k.finds("d", 1, dir)
	k.drops("d", dir)
	k.finds("a", 0, file)
	k.drops("a", file)
	k.size(0)
}

// TestDropFinds: Find's numbers, whatever is to be dropped.
func TestDropFinds(t *testing.T) {
	k := grown(t, "a d/ d/b")
	for _, isDir := range []bool{file, dir} {
		for _, path := range append([]string{"x", "b", "x/a", "d/x", "d/a", "d/d", "b/a", "a/", "a/b/c"}, noNames...) {
			k.dropsNot(path, isDir, api.NoEntry)
		}
		for _, path := range []string{"a/a", "a/b", "a/x"} {
			k.dropsNot(path, isDir, api.NotDir)
		}
	}
	k.drops("a", file)
	k.dropsNot("a", file, api.NoEntry)
	k.drops("d/b", file)
	k.dropsNot("d/b", file, api.NoEntry)
	k.drops("d", dir)
	k.dropsNot("d", dir, api.NoEntry)
}

// TestDropKinds: a directory as a file, whether it has something or not, and a file as a directory.
func TestDropKinds(t *testing.T) {
	k := grown(t, "a d/ d/b e/")
	k.dropsNot("d", file, api.IsDir)
	k.dropsNot("e", file, api.IsDir)
	k.dropsNot("a", dir, api.NotDir)
	k.dropsNot("d/b", dir, api.NotDir)
}

// TestDropNotEmpty: as long as there is something in it; what is elsewhere does not keep it.
func TestDropNotEmpty(t *testing.T) {
	k := grown(t, "d/ d/a d/b e/ e/d e/e x/")
	k.dropsNot("d", dir, api.NotEmpty)
	k.drops("d/a", file)
	k.dropsNot("d", dir, api.NotEmpty)
	k.moves("d/b", "b", -1)
	k.drops("d", dir)
	k.moves("b", "x/b", -1)
	k.dropsNot("x", dir, api.NotEmpty)
	k.drops("e/d", file)
	k.drops("e/e", file)
	k.drops("e", dir)
	k.drops("x/b", file)
	k.drops("x", dir)
}
