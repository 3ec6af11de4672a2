package tree_test

import (
	"testing"

	"crossroads/api"
	"crossroads/tree"
)

// P13.2's Copy, and nil.

// changes are calls that change the tree of "a d/ d/b c e/".
var changes = []call{
	{what: "Make", path: "x"}, {what: "Make", path: "x", dir: dir}, {what: "Make", path: "d/x"}, {what: "Drop", path: "a"}, {what: "Drop", path: "d/b"}, {what: "Drop", path: "e", dir: dir},
	{what: "Move", path: "a", to: "x"}, {what: "Move", path: "a", to: "d/b"}, {what: "Move", path: "d/b", to: "a"}, {what: "Move", path: "d/b", to: "e/b"},
}

// TestCopyIsAlike: all that a tree tells, the next number too.
func TestCopyIsAlike(t *testing.T) {
	for _, text := range []string{"", "a", "a d/ d/b c e/", "a b c d/ d/b f g h"} {
		k := grown(t, text)
		if was, now := look(k.Tree), look(k.Tree.Copy()); was != now {
			t.Errorf("there is %s, and its copy is %s", was, now)
		}
	}
	k := grown(t, "a b d/")
	k.drops("b", file)
	k.makes("b", file, 3)
	k.drops("b", file)
	c := k.copied()
	c.finds("a", 0, file)
	c.finds("d", 2, dir)
	c.lacks("b", api.NoEntry)
	c.makes("b", file, 4)
	k.makes("x", file, 4)
}

// TestCopyGoesItsWay: what is done to either afterwards does not show in the other, nor in a copy of the copy.
func TestCopyGoesItsWay(t *testing.T) {
	for _, c := range changes {
		for changed := range 3 {
			one := grown(t, "a d/ d/b c e/").Tree
			trees := []*tree.Tree{one, one.Copy(), nil}
			trees[2] = trees[1].Copy()
			was := look(one)
			c.of(trees[changed])
			for i, x := range trees {
				if now := look(x); (now != was) != (i == changed) {
					t.Errorf("%+v of tree %d: %d was %s, and is %s", c, changed, i, was, now)
				}
			}
		}
	}
}

// TestCopyOfEmpty: what is made in either is not in the other.
func TestCopyOfEmpty(t *testing.T) {
	k := grown(t, "")
	c := k.copied()
	k.makes("a", file, 0)
	c.lacks("a", api.NoEntry)
	c.size(0)
	c.makes("d", dir, 0)
	c.makes("d/b", file, 1)
	k.lacks("d", api.NoEntry)
	k.makes("b", file, 1)
	c.lacks("b", api.NoEntry)
}

// TestCopyOfFull: each of them has its own room.
func TestCopyOfFull(t *testing.T) {
	k := grown(t, "a b c d/ d/b f g h")
	c := k.copied()
	full(c)
	k.drops("a", file)
	full(c)
	k.makes("x", file, 8)
	full(k)
	c.moves("a", "b", 1)
	c.makes("y", file, 8)
	full(c)
	full(k)
	k.finds("b", 1, file)
	k.lacks("y", api.NoEntry)
}

// TestCopyLeaves: asking for one changes nothing.
func TestCopyLeaves(t *testing.T) {
	k := grown(t, "a d/ d/b")
	k.same("Copy", "", func() {
		for range 10 {
			k.Tree.Copy()
		}
	})
	k.makes("x", file, 3)
}

// TestNewTreesAreApart: two of one list.
func TestNewTreesAreApart(t *testing.T) {
	l := entries("a d/ d/b")
	x, _ := tree.New(l)
	y, _ := tree.New(l)
	was := look(y)
	x.Make("c", file)
	x.Move("a", "d/b")
	if now := look(y); now != was {
		t.Errorf("there was %s, and is %s", was, now)
	}
}

// TestNil: zero values of whatever path.
func TestNil(t *testing.T) {
	var x *tree.Tree
	for _, path := range append([]string{"a", "d/b"}, noNames...) {
		if n, d, no := x.Find(path); n != 0 || d || no != 0 {
			t.Errorf("Find(%q) = %d, %v, %#x", path, n, d, no)
		}
		for _, isDir := range []bool{file, dir} {
			if n, no := x.Make(path, isDir); n != 0 || no != 0 {
				t.Errorf("Make(%q, %v) = %d, %#x", path, isDir, n, no)
			}
			if no := x.Drop(path, isDir); no != 0 {
				t.Errorf("Drop(%q, %v) = %#x", path, isDir, no)
			}
		}
		for _, to := range []string{path, "c", ""} {
			if n, no := x.Move(path, to); n != 0 || no != 0 {
				t.Errorf("Move(%q, %q) = %d, %#x", path, to, n, no)
			}
		}
		if n := x.Many(path); n != 0 {
			t.Errorf("Many(%q) = %#x", path, n)
		}
	}
	if x.Len() != 0 || x.Copy() != nil {
		t.Errorf("Len %d, Copy %v", x.Len(), x.Copy())
	}
}
