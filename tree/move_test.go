package tree_test

import (
	"testing"

	"crossroads/api"
)

// P13.2, Move.

// TestMoveToNothing: the number goes along, and none is out of the tree; within a directory, into one, out of one, from one to another.
func TestMoveToNothing(t *testing.T) {
	k := grown(t, "a d/ e/ d/b")
	k.moves("a", "c", -1)
	k.finds("c", 0, file)
	k.moves("c", "d/c", -1)
	k.finds("d/c", 0, file)
	k.moves("d/c", "d/a", -1)
	k.moves("d/a", "e/a", -1)
	k.moves("d/b", "d/d", -1)
	k.finds("d/d", 3, file)
	k.moves("e/a", "a", -1)
	k.finds("a", 0, file)
	k.finds("d", 1, dir)
	k.finds("e", 2, dir)
	k.many("d", 1)
	k.many("e", 0)
	k.size(4)
}

// TestMoveOntoFile: what was there is answered, and out of the tree.
func TestMoveOntoFile(t *testing.T) {
	for _, paths := range [][2]string{{"a", "b"}, {"b", "a"}, {"a", "d/a"}, {"d/a", "a"}, {"d/a", "d/d"}, {"d/d", "d/a"}, {"d/a", "e/a"}, {"e/e", "d/d"}, {"e/e", "b"}} {
		k := grown(t, "b d/ a d/d e/ e/a d/a e/e")
		from, _, _ := k.Find(paths[0])
		out, _, _ := k.Find(paths[1])
		k.moves(paths[0], paths[1], out)
		k.size(7)
		for i, e := range entries("b d/ a d/d e/ e/a d/a e/e") {
			if i != from && i != out {
				k.finds(e.Path, i, e.Dir)
			}
		}
		k.makes(paths[0], file, 8) // there is room, and its number is not that of what went
		k.moves(paths[1], paths[0], 8)
		k.finds(paths[0], from, file)
	}
}

// TestMoveOntoItself: nothing is out of the tree.
func TestMoveOntoItself(t *testing.T) {
	k := grown(t, "a d/ d/b b c d/d")
	for _, path := range []string{"a", "d/b", "d/d"} {
		n, _, _ := k.Find(path)
		k.movesNot(path, path, 0)
		k.finds(path, n, file)
		k.size(6)
	}
}

// TestMoveFromNothing: Find's numbers, ahead of all that is wrong with to, and though both are one path.
func TestMoveFromNothing(t *testing.T) {
	k := grown(t, "a d/ d/b")
	for _, to := range []string{"a", "c", "d", "d/b", "d/c", "a/b", "x/a", "", "a/", "A"} {
		for _, from := range append([]string{"x", "b", "x/a", "d/x", "d/d", "b/a", "a/b/c"}, noNames...) {
			k.movesNot(from, to, api.NoEntry)
			k.movesNot(from, from, api.NoEntry)
		}
		for _, from := range []string{"a/a", "a/b", "a/x"} {
			k.movesNot(from, to, api.NotDir)
			k.movesNot(from, from, api.NotDir)
		}
	}
}

// TestMoveDirectory: it is told ahead of all that is wrong with to, and though both are one path.
func TestMoveDirectory(t *testing.T) {
	k := grown(t, "a d/ d/b e/")
	for _, to := range append([]string{"a", "c", "d", "e", "d/b", "d/c", "e/d", "a/b", "x/a"}, noNames...) {
		k.movesNot("d", to, api.IsDir)
		k.movesNot("e", to, api.IsDir)
	}
}

// TestMoveInFile: of to, what stands ahead of the stroke is a file, from itself too.
func TestMoveInFile(t *testing.T) {
	k := grown(t, "a d/ d/b c")
	for _, from := range []string{"a", "d/b", "c"} {
		for _, to := range []string{"a/a", "a/b", "a/x", "c/a", "c/c"} {
			k.movesNot(from, to, api.NotDir)
		}
	}
}

// TestMoveNoDirectory: of to, it is not there, or to is no name.
func TestMoveNoDirectory(t *testing.T) {
	k := grown(t, "a d/ d/b")
	for _, from := range []string{"a", "d/b"} {
		for _, to := range append([]string{"x/a", "x/b", "b/a", "dd/b", "a/", "a/b/c", "d/b/c"}, noNames...) {
			k.movesNot(from, to, api.NoEntry)
		}
	}
}

// TestMoveOntoDirectory: whether it has something or not, from itself too.
func TestMoveOntoDirectory(t *testing.T) {
	k := grown(t, "a d/ d/b e/")
	for _, from := range []string{"a", "d/b"} {
		k.movesNot(from, "d", api.IsDir)
		k.movesNot(from, "e", api.IsDir)
	}
}

// TestMoveInFullTree: it needs no room.
func TestMoveInFullTree(t *testing.T) {
	k := grown(t, "a b c d/ e/ d/b g h")
	k.moves("a", "x", -1)
	k.moves("b", "d/a", -1)
	k.moves("d/b", "e/b", -1)
	k.size(8)
	k.makesNot("y", file, api.NoSpace)
	k.moves("x", "g", 6)
	k.makes("y", file, 8)
}

// TestMoveAndBack: what goes round is where it was, with its number.
func TestMoveAndBack(t *testing.T) {
	k := grown(t, "a d/ b")
	was := look(k.Tree)
	for range 100 {
		k.moves("a", "d/a", -1)
		k.moves("b", "a", -1)
		k.moves("d/a", "b", -1)
		k.moves("a", "c", -1)
		k.moves("b", "a", -1)
		k.moves("c", "b", -1)
	}
	if now := look(k.Tree); now != was {
		t.Errorf("there was %s, and is %s", was, now)
	}
}
