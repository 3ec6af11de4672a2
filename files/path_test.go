package files_test

import "testing"

// P14.3, Unlink, Rename, Mkdir, Rmdir, List and Data.

// TestUnlink: the file is out of the tree, and the others stay.
func TestUnlink(t *testing.T) {
	plays(t, "a=abc d/ d/b=de c=f", `
		unlink a: 0
		data a: NoEntry
		unlink a: NoEntry
		unlink d/b: 0
		data d/b: NoEntry
		list d: 0
		rmdir d: 0`).has("c=f")
}

// TestUnlinkNumbers are tree's of Drop.
func TestUnlinkNumbers(t *testing.T) {
	k := grown(t, "a=abc d/ d/b e/")
	k.refuses("NoEntry", "unlink", "x", "b", "x/a", "d/x", "d/a", "b/a")
	k.refuses("NoEntry", "unlink", noNames...)
	k.refuses("NotDir", "unlink", "a/a", "a/b", "a/x")
	k.refuses("IsDir", "unlink", "d", "e")
}

// TestUnlinkOpen: the file is read, written, cut and sized through what is open, twins of it too, and is at no path.
func TestUnlinkOpen(t *testing.T) {
	plays(t, "a=abcdefgh b=b", `
		open a: 0
		read 0 2: ab 2
		unlink a: 0
		size 0: 8
		read 0 2: cd 2
		write 0 xy: 2
		twin 0: 1
		read 1 9: gh 2
		seek 1 3: 3
		read 0 9: dxygh 5
		trunc 1 4: 0
		size 0: 4
		trunc 0 6: 0
		seek 0 0: 0
		read 1 9: abcd__ 6
		close 0: 0
		seek 1 1: 1
		write 1 z: 1
		read 1 9: cd__ 4
		data a: NoEntry
		unlink a: NoEntry
		close 1: 0
		size 1: BadFd
		data a: NoEntry`).has("b=b")
}

// TestUnlinkOpenTwice: the first one that is closed leaves it to the other, which has its own offset.
func TestUnlinkOpenTwice(t *testing.T) {
	plays(t, "a=abcd", `
		open a: 0
		open a: 1
		read 0 1: a 1
		unlink a: 0
		close 0: 0
		size 1: 4
		read 1 3: abc 3
		write 1 xyz: 3
		open a: 0
		size 0: 0
		close 0: 0
		seek 1 0: 0
		read 1 9: abcxyz 6`).has("a=")
}

// TestUnlinkMadeAnew: what is made at the path is another file, empty, and neither shows in the other.
func TestUnlinkMadeAnew(t *testing.T) {
	plays(t, "a=abc", `
		open a: 0
		unlink a: 0
		open a: 1
		size 1: 0
		write 1 12345: 5
		read 0 9: abc 3
		size 0: 3
		write 0 de: 2
		data a: 12345 0
		trunc 0 0: 0
		size 1: 5
		unlink a: 0
		open a: 2
		write 2 z: 1
		seek 1 0: 0
		read 1 9: 12345 5
		size 0: 0
		rename a b: 0
		seek 2 0: 0
		read 2 9: z 1
		mkdir a: 0
		open a: IsDir
		size 1: 5`).has("b=z")
}

// TestUnlinkClosed: a file that was out of the tree and is closed does not come again, whatever is made then.
func TestUnlinkClosed(t *testing.T) {
	k := plays(t, "a=abc b=de", `
		open a: 0
		unlink a: 0
		close 0: 0
		open a: 0
		size 0: 0
		open c: 1
		open d: 2
		read 1 9: 0
		read 2 9: 0`)
	k.has("a= b=de c= d=")
}

// TestRename: the file is at its other path with all that it has, and at the first one no more.
func TestRename(t *testing.T) {
	plays(t, "a=abc d/ d/b=de", `
		rename a x: 0
		data a: NoEntry
		data x: abc 0
		rename x d/x: 0
		data x: NoEntry
		data d/x: abc 0
		list d: 2
		rename d/b a: 0
		list d: 1
		rename d/x d/b: 0
		data d/x: NoEntry`).has("a=de d/b=abc")
}

// TestRenameOpen: what is open goes along with its file, and a file that is made at its path is another.
func TestRenameOpen(t *testing.T) {
	plays(t, "a=abc d/", `
		open a: 0
		read 0 1: a 1
		rename a d/x: 0
		read 0 1: b 1
		write 0 yz: 2
		data d/x: abyz 0
		open a: 1
		size 1: 0
		write 1 new: 3
		open d/x: 2
		trunc 2 1: 0
		size 0: 1
		unlink d/x: 0
		size 0: 1
		size 2: 1`).has("a=new")
}

// TestRenameUpon: the file that was there is out of the tree, but for who has it open; and it stays so.
func TestRenameUpon(t *testing.T) {
	plays(t, "a=abc b=defg c=h", `
		open b: 0
		open a: 1
		read 0 1: d 1
		rename a b: 0
		data a: NoEntry
		data b: abc 0
		read 0 1: e 1
		size 0: 4
		write 0 xyz: 3
		data b: abc 0
		read 1 9: abc 3
		write 1 5: 1
		data b: abc5 0
		trunc 0 2: 0
		size 0: 2
		twin 0: 2
		close 0: 0
		seek 2 0: 0
		read 2 9: de 2
		open b: 0
		read 0 9: abc5 4
		rename c b: 0
		seek 0 0: 0
		read 0 9: abc5 4
		seek 1 1: 1
		read 1 9: bc5 3
		seek 2 1: 1
		read 2 9: e 1
		data c: NoEntry`).has("b=h")
}

// TestRenameUponClosed: what was there and is not open is gone.
func TestRenameUponClosed(t *testing.T) {
	plays(t, "a=abc d/ d/b=defg", `
		rename a d/b: 0
		list d: 1
		open a: 0
		size 0: 0
		rename a d/b: 0
		open a: 1
		size 1: 0
		open d/b: 2
		write 2 x: 1
		read 0 9: x 1
		size 1: 0`).has("a= d/b=x")
}

// TestRenameSame: both are one path: 0, and nothing, and the file is not out of the tree.
func TestRenameSame(t *testing.T) {
	k := plays(t, "a=abc d/ d/b=de", "open a: 0\nread 0 1: a 1")
	for _, path := range []string{"a", "d/b"} {
		was := look(k.from, k.done)
		if no := k.do(call{what: "rename", path: path, to: path}); no != "0" {
			t.Errorf("rename %s %s: %s", path, path, no)
		}
		if now := look(k.from, k.done); now != was {
			t.Errorf("rename %s %s: there was\n%s and is\n%s", path, path, was, now)
		}
	}
	k.plays(`
		read 0 1: b 1
		close 0: 0
		open a: 0
		read 0 9: abc 3`).has("a=abc d/b=de")
}

// TestRenameNumbers are tree's of Move.
func TestRenameNumbers(t *testing.T) {
	k := plays(t, "a=abc d/ d/b=de e/", "open a: 0\nopen d/b: 1\nread 1 1: d 1")
	k.refuses("NoEntry", "rename", "x", "b", "x/a", "d/x", "d/a", "b/a")
	k.refuses("NoEntry", "rename", noNames...)
	k.refuses("NotDir", "rename", "a/a", "a/b", "a/x")
	k.refuses("IsDir", "rename", "d", "e")
	k.plays(`
		rename a a/x: NotDir
		rename d/b a/b: NotDir
		rename a x/a: NoEntry
		rename a d/x/y: NoEntry
		rename a A: NoEntry
		rename a d/: NoEntry
		rename a: NoEntry
		rename a d: IsDir
		rename d/b e: IsDir
		rename d d: IsDir
		rename d a: IsDir
		rename d x/y: IsDir
		rename x x: NoEntry
		rename x d: NoEntry
		rename x a/b: NoEntry
		rename a/x x/y: NotDir
		read 0 9: abc 3
		read 1 9: e 1`).has("a=abc d/b=de")
}

// TestMkdir: there is a directory that has nothing, and may have files.
func TestMkdir(t *testing.T) {
	plays(t, "a=abc", `
		mkdir d: 0
		list d: 0
		open d: IsDir
		open d/b: 0
		list d: 1
		mkdir e: 0
		rename d/b e/b: 0
		list d: 0
		list e: 1`).has("a=abc e/b=")
}

// TestMkdirNumbers are tree's of Make.
func TestMkdirNumbers(t *testing.T) {
	for _, from := range []string{"a=abc d/ d/b e/", "a=abc d/ d/b e/ c f g h"} {
		k := grown(t, from)
		k.refuses("NotDir", "mkdir", "a/a", "a/b", "a/x")
		k.refuses("NoEntry", "mkdir", "x/a", "x/x", "b/a")
		k.refuses("NoEntry", "mkdir", noNames...)
		k.refuses("Exists", "mkdir", "a", "d", "d/b", "e")
		k.refuses("Invalid", "mkdir", "d/x", "d/d", "e/x")
	}
	plays(t, "a b c e f g h", `
		mkdir x: 0
		mkdir y: NoSpace
		unlink a: 0
		mkdir y: 0
		mkdir z: NoSpace
		rmdir x: 0
		mkdir z: 0
		mkdir x: NoSpace`)
}

// TestRmdir: the directory is out of the tree, and may be made anew, or a file where it was.
func TestRmdir(t *testing.T) {
	plays(t, "a=abc d/ d/b=de", `
		rmdir d: NotEmpty
		open d/b: 0
		unlink d/b: 0
		rmdir d: 0
		list d: NoEntry
		rmdir d: NoEntry
		read 0 9: de 2
		open d/b: NoEntry
		open d: 1
		open d/b: NotDir
		unlink d: 0
		mkdir d: 0
		list d: 0
		data d/b: NoEntry`).has("a=abc")
}

// TestRmdirNumbers are tree's of Drop.
func TestRmdirNumbers(t *testing.T) {
	k := plays(t, "a=abc d/ d/b=de e/", "open a: 0")
	k.refuses("NoEntry", "rmdir", "x", "b", "x/a", "d/x", "d/a", "b/a")
	k.refuses("NoEntry", "rmdir", noNames...)
	k.refuses("NotDir", "rmdir", "a", "d/b", "a/a", "a/x")
	k.refuses("NotEmpty", "rmdir", "d")
	k.plays("rmdir e: 0")
}

// TestList: how many the directory has, as they come and go; what is out of it and open is not counted.
func TestList(t *testing.T) {
	plays(t, "d/ d/a a d/b e/ f", `
		list d: 2
		list e: 0
		open d/c: 0
		list d: 3
		open e/c: 1
		list e: 1
		unlink d/a: 0
		unlink d/c: 0
		list d: 1
		rename a e/a: 0
		rename f e/a: 0
		list e: 2
		close 0: 0
		list d: 1`)
	plays(t, "d/ d/a d/b d/c d/d d/e d/f d/g", "list d: 7")
}

// TestListNumbers are tree's of Many.
func TestListNumbers(t *testing.T) {
	k := grown(t, "a=abc d/ d/b")
	k.refuses("NoEntry", "list", "x", "b", "x/a", "d/x", "d/a", "b/a")
	k.refuses("NoEntry", "list", noNames...)
	k.refuses("NotDir", "list", "a", "d/b", "a/a", "a/x")
}

// TestData: behind each kind of call that changes what a file has, from none to MaxSize bytes.
func TestData(t *testing.T) {
	plays(t, "a=abc d/ d/b=12345678 c", `
		data a: abc 0
		data d/b: 12345678 0
		data c: 0
		open a: 0
		data a: abc 0
		write 0 x: 1
		data a: xbc 0
		seek 0 5: 5
		data a: xbc 0
		write 0 y: 1
		data a: xbc__y 0
		trunc 0 2: 0
		data a: xb 0
		trunc 0 4: 0
		data a: xb__ 0
		rename a c: 0
		data a: NoEntry
		data c: xb__ 0
		open a: 1
		data a: 0
		write 1 12: 2
		data a: 12 0
		rename d/b a: 0
		data a: 12345678 0
		write 1 z: 1
		data a: 12345678 0
		close 1: 0
		unlink a: 0
		data a: NoEntry
		data d/b: NoEntry
		close 0: 0
		data c: xb__ 0`)
}

// TestDataNumbers are Find's, and IsDir.
func TestDataNumbers(t *testing.T) {
	k := grown(t, "a=abc d/ d/b=de e/")
	k.refuses("NoEntry", "data", "x", "b", "x/a", "d/x", "d/a", "b/a")
	k.refuses("NoEntry", "data", noNames...)
	k.refuses("NotDir", "data", "a/a", "a/b", "a/x")
	k.refuses("IsDir", "data", "d", "e")
	for _, path := range []string{"x", "a/x", "d", ""} {
		if b, no := k.Data(path); len(b) != 0 || no == 0 {
			t.Errorf("Data(%q) = %q, %#x", path, b, no)
		}
	}
}
