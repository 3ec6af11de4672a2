package files_test

import "testing"

// P14.2, Open, Close and Twin.

// TestOpen: what is there has what it had, from its beginning on; the least free descriptor is answered.
func TestOpen(t *testing.T) {
	plays(t, "a=abc d/ d/b=de c", `
		open a: 0
		open d/b: 1
		open c: 2
		open a: 3
		size 0: 3
		size 1: 2
		size 2: 0
		size 3: 3
		read 0 9: abc 3
		read 1 9: de 2
		read 2 9: 0
		read 3 9: abc 3`).has("a=abc d/b=de c=")
}

// TestOpenAnew: an offset that the descriptor had ahead is not had again.
func TestOpenAnew(t *testing.T) {
	plays(t, "a=abc b=defg", `
		open a: 0
		read 0 2: ab 2
		close 0: 0
		open a: 0
		read 0 2: ab 2
		seek 0 3: 3
		close 0: 0
		open b: 0
		read 0 9: defg 4`)
}

// TestOpenMakes: what is not there is made, empty, where it is to be, and stays behind Close.
func TestOpenMakes(t *testing.T) {
	plays(t, "a=abc d/", `
		data x: NoEntry
		open x: 0
		data x: 0
		size 0: 0
		read 0 9: 0
		open d/x: 1
		list d: 1
		write 1 yes: 3
		data x: 0
		close 0: 0
		close 1: 0
		mkdir x: Exists
		open x: 0
		open d/x: 1
		read 1 9: yes 3
		rmdir d: NotEmpty`).has("a=abc x= d/x=yes")
}

// TestOpenMakesAnew: what is made where another was has nothing of it.
func TestOpenMakesAnew(t *testing.T) {
	plays(t, "a=abc b=de", `
		unlink a: 0
		open a: 0
		size 0: 0
		rename b a: 0
		open b: 1
		size 1: 0
		write 1 x: 1
		size 0: 0
		data a: de 0`).has("b=x")
}

// TestOpenOneFile: what one descriptor does to the bytes all others see that have the file.
func TestOpenOneFile(t *testing.T) {
	plays(t, "a=abc", `
		open a: 0
		open a: 1
		twin 1: 2
		write 0 x: 1
		read 1 1: x 1
		write 2 y: 1
		read 0 9: yc 2
		trunc 1 1: 0
		size 0: 1
		size 2: 1`).has("a=x")
}

// TestOpenLeast: where one in the middle is free again.
func TestOpenLeast(t *testing.T) {
	k := plays(t, "a=1 b=2 c=3 d=4 e=5", `
		open a: 0
		open b: 1
		open c: 2
		open d: 3
		close 1: 0
		open e: 1
		read 1 9: 5 1
		close 2: 0
		close 0: 0
		open b: 0
		read 0 9: 2 1
		open a: 2
		read 2 9: 1 1
		read 3 9: 4 1
		open a: ManyFds
		close 3: 0
		open e: 3
		read 3 9: 5 1`)
	k.plays(`
		close 0: 0
		close 1: 0
		close 2: 0
		close 3: 0
		open c: 0`)
}

// fd4 are calls behind which all descriptors are open.
const fd4 = `
	open a: 0
	open a: 1
	open a: 2
	open a: 3`

// TestOpenDirectory: ahead of ManyFds.
func TestOpenDirectory(t *testing.T) {
	for _, ahead := range []string{"", fd4} {
		plays(t, "a=x d/ d/b e/", ahead).refuses("IsDir", "open", "d", "e")
	}
}

// TestOpenInFile: ahead of ManyFds and of NoSpace.
func TestOpenInFile(t *testing.T) {
	for _, from := range []string{"a=x d/ d/b", "a b c e f d/ d/b g"} {
		for _, ahead := range []string{"", fd4} {
			plays(t, from, ahead).refuses("NotDir", "open", "a/a", "a/b", "a/x")
		}
	}
}

// TestOpenNoDirectory: it is not there, or the path is no name: ahead of ManyFds and of NoSpace.
func TestOpenNoDirectory(t *testing.T) {
	for _, from := range []string{"a=x d/ d/b", "a b c e f d/ d/b g"} {
		for _, ahead := range []string{"", fd4} {
			k := plays(t, from, ahead)
			k.refuses("NoEntry", "open", "x/a", "x/b", "x/x", "dd/b")
			k.refuses("NoEntry", "open", noNames...)
		}
	}
}

// TestOpenMany: of what is there and what is not, ahead of NoSpace; nothing is made.
func TestOpenMany(t *testing.T) {
	for _, from := range []string{"a=x d/ d/b", "a b c e f d/ d/b g"} {
		k := plays(t, from, fd4)
		k.refuses("ManyFds", "open", "a", "d/b", "x", "y", "d/x", "d/y")
		k.plays(`
			data x: NoEntry
			data d/x: NoEntry
			close 2: 0
			open d/b: 2
			open d/b: ManyFds`)
	}
}

// TestOpenNoSpace: what is there is opened, what is not is not; of a tree that is full by New or by calls.
func TestOpenNoSpace(t *testing.T) {
	full := `
		open x: NoSpace
		open d/x: NoSpace
		mkdir x: NoSpace
		open d/b: 0
		open a: 1
		open x: NoSpace
		unlink c: 0
		open d/x: 2
		open x: NoSpace
		open d/x: 3
		open x: ManyFds`
	plays(t, "a=x b c d/ d/b d/c e/ e/b", full).has("a=x d/x=")
	plays(t, "a=x d/ c", `
		open d/b: 0
		open b: 1
		close 0: 0
		close 1: 0
		mkdir e: 0
		open e/b: 0
		open d/c: 1
		close 0: 0
		close 1: 0`).plays(full).has("a=x d/x= d/c=")
}

// TestNoSpaceOfOpen: what is out of the tree and open takes no room in it.
func TestNoSpaceOfOpen(t *testing.T) {
	plays(t, "a=x b c e f g h i", `
		open a: 0
		open x: NoSpace
		unlink a: 0
		open x: 1
		open y: NoSpace
		rename b c: 0
		open y: 2
		open z: NoSpace
		read 0 9: x 1`)
}

// all are the calls that take a descriptor.
var all = []call{
	{what: "close"}, {what: "twin"}, {what: "size"}, {what: "seek"}, {what: "seek", n: 255}, {what: "seek", n: 256}, {what: "trunc"}, {what: "trunc", n: 8}, {what: "trunc", n: 9},
	{what: "read"}, {what: "read", n: 1}, {what: "read", n: 65535}, {what: "write"}, {what: "write", b: "x"}, {what: "write", b: "123456789"},
}

// TestBadFd: of all that take one: never open, closed, beyond MaxFds; ahead of all else that is wrong.
func TestBadFd(t *testing.T) {
	for _, ahead := range []string{
		"",
		"open a: 0",
		"open a: 0\nopen b: 1\nclose 0: 0",
		"open a: 0\ntwin 0: 1\nclose 0: 0\ntwin 1: 0\nclose 1: 0",
		"open a: 0\nopen a: 1\nopen b: 2\nopen c: 3\nclose 1: 0",
		"open a: 0\nopen a: 1\nopen b: 2\nopen c: 3",
		"open a: 0\nunlink a: 0\nclose 0: 0",
	} {
		k := plays(t, "a=abc b", ahead)
		for _, fd := range []uint16{0, 1, 2, 3, 4, 5, 7, 8, 16, 255, 256, 257, 1 << 15, 65531, 65532, 65535} {
			if k.Size(fd) < 9 {
				continue // it is open
			}
			for _, c := range all {
				c.fd = fd
				if got := k.do(c); got != "BadFd" {
					t.Errorf("%+v behind %s: %s", c, ahead, got)
				}
			}
		}
	}
}

// TestClose: the file and the other descriptors stay, twins too.
func TestClose(t *testing.T) {
	plays(t, "a=abcd b=ef", `
		open a: 0
		open b: 1
		twin 0: 2
		open a: 3
		read 0 1: a 1
		close 0: 0
		size 0: BadFd
		size 2: 4
		read 2 1: b 1
		read 3 1: a 1
		read 1 9: ef 2
		close 2: 0
		size 2: BadFd
		read 3 9: bcd 3
		close 3: 0
		close 3: BadFd
		close 0: BadFd
		size 1: 2
		close 1: 0`).has("a=abcd b=ef")
}

// TestTwin: it goes on where the other is, and the least free one is answered.
func TestTwin(t *testing.T) {
	plays(t, "a=abcdefgh b=xyz", `
		open a: 0
		read 0 2: ab 2
		twin 0: 1
		open b: 2
		read 1 1: c 1
		close 0: 0
		twin 1: 0
		read 0 1: d 1
		read 1 1: e 1
		twin 2: 3
		read 3 2: xy 2
		read 2 9: z 1
		twin 0: ManyFds
		twin 3: ManyFds
		twin 4: BadFd
		close 1: 0
		close 2: 0
		twin 3: 1
		twin 0: 2
		seek 2 7: 7
		read 0 9: h 1
		seek 1 1: 1
		read 3 9: yz 2`)
}

// TestTwinOfTwin: all of them share the offset, whichever was first, and whichever is closed.
func TestTwinOfTwin(t *testing.T) {
	plays(t, "a=abcdefgh", `
		open a: 0
		twin 0: 1
		twin 1: 2
		twin 0: 3
		read 3 1: a 1
		read 2 1: b 1
		close 0: 0
		close 1: 0
		read 2 1: c 1
		read 3 1: d 1
		close 3: 0
		read 2 1: e 1
		twin 2: 0
		read 0 1: f 1
		read 2 1: g 1`)
}

// TestTwinGone: what is opened behind twins, one of which was closed, has an offset of its own.
func TestTwinGone(t *testing.T) {
	plays(t, "a=abcdefgh b=xyz", `
		open a: 0
		twin 0: 1
		close 0: 0
		open a: 0
		read 1 3: abc 3
		read 0 2: ab 2
		open b: 2
		read 1 1: d 1
		read 0 1: c 1
		read 2 1: x 1
		close 1: 0
		open b: 1
		read 1 1: x 1
		read 2 1: y 1`)
}
