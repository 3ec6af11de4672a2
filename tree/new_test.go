package tree_test

import (
	"math"
	"slices"
	"strings"
	"testing"
	"unsafe"

	"crossroads/api"
	"crossroads/tree"
)

// P13.1.

func TestTheExample(t *testing.T) {
	grown(t, "").makes("a", file, 0)
}

// refused fails the test where New answers anything but ErrClass alone.
func refused(t *testing.T, l ...api.Entry) {
	t.Helper()
	if x, e := tree.New(l); x != nil || e != api.ErrClass {
		t.Errorf("New(%+v) = %v, %d; want nil, ErrClass", l, x, int(e))
	}
}

// TestNewNumbers: the number of each entry is its place, whatever it is.
func TestNewNumbers(t *testing.T) {
	for _, text := range []string{
		"", "a", "d/", "a b", "b a", "d/ d/b", "d/ a d/b", "a d/ d/b d/a", "z d/ y d/z c/ c/d c/z d/d",
		"a/ b/ c/ d/ e/ f/ g/ h/", "h g f e d c b a", "abcdef/ abcdef/h abcdefgh .../ .../x", "d/ d/a d/b d/c d/d d/e d/f d/g",
	} {
		k := grown(t, text)
		for i, e := range entries(text) {
			k.finds(e.Path, i, e.Dir)
		}
		k.size(len(entries(text)))
	}
}

// TestNewOfNone: a tree that has nothing, and is one.
func TestNewOfNone(t *testing.T) {
	for _, l := range [][]api.Entry{nil, {}} {
		x, e := tree.New(l)
		if x == nil || e != api.OK || x.Len() != 0 {
			t.Fatalf("New(%v) = %v, %d", l, x, int(e))
		}
		k := tested{t, x}
		k.lacks("a", api.NoEntry)
		k.makes("a", dir, 0)
		k.makes("a/b", file, 1)
	}
}

// TestNewTooMany: as many as there may be, and one more, whatever they are.
func TestNewTooMany(t *testing.T) {
	for _, text := range []string{"a b c d e f g h i j", "a/ b/ c/ d/ e/ f/ g/ h/ i/ j/", "d/ d/a d/b d/c d/d d/e d/f d/g d/h d/i", "a d/ d/a b d/b e/ e/d c d/c e/e"} {
		l := entries(text)
		for n := range len(l) + 1 {
			if n > 8 {
				refused(t, l[:n]...)
			} else if x, e := tree.New(l[:n]); e != api.OK || x.Len() != n {
				t.Errorf("New(%+v): %d", l[:n], int(e))
			}
		}
	}
	if x, e := tree.New(make([]api.Entry, 1<<22)); x != nil || e != api.ErrClass {
		t.Errorf("New of many: %v, %d", x, int(e))
	}
}

// TestNewNoName: in each place, as a file and as a directory.
func TestNewNoName(t *testing.T) {
	for _, path := range noNames {
		for _, isDir := range []bool{file, dir} {
			wrong := api.Entry{Path: path, Dir: isDir}
			refused(t, wrong)
			for at := range 4 {
				refused(t, slices.Insert(entries("a d/ d/b"), at, wrong)...)
			}
		}
	}
}

// TestNewNoDirectory: it does not stand anywhere, or stands behind, or is one of another name.
func TestNewNoDirectory(t *testing.T) {
	for _, text := range []string{
		"d/b", "a d/b", "d/b d/", "a d/b d/", "d/b e/ d/", "e/ d/b", "dd/ d/b", "d/ dd/b", "d/ d/d e/d/b", "d/ d/e e/b", "b/ d/b", "d/ d/b b/d", "e/ e/d d/b", "d/ d/b e/b e/", "a b c d e f g h/b",
	} {
		refused(t, entries(text)...)
	}
	grown(t, "d/ d/b").finds("d/b", 1, file)
	grown(t, "d/ a e/ d/b e/b").finds("e/b", 4, file)
}

// TestNewDirectoryIsFile: what stands ahead of the stroke is there, but has nothing in it.
func TestNewDirectoryIsFile(t *testing.T) {
	for _, text := range []string{"d d/b", "a d d/b", "d e/ d/e", "e/ d d/b", "d/ e d/e e/b", "d d/d", "a b c d e f g d/b"} {
		refused(t, entries(text)...)
	}
}

// TestNewDeepDirectory: though its directory is there.
func TestNewDeepDirectory(t *testing.T) {
	for _, text := range []string{"d/ d/b/", "d/ d/d/", "a d/ d/c d/b/", "d/ e/ e/d/", "d/b/", "d d/b/", "d/ d/b/ d/b"} {
		refused(t, entries(text)...)
	}
	grown(t, "d/ d/b").finds("d/b", 1, file)
}

// TestNewTwice: one path of two entries, alike or not, side by side or far.
func TestNewTwice(t *testing.T) {
	for _, text := range []string{"a a", "d/ d/", "a a/", "d/ d", "a b a", "d/ a d/", "d/ d/b d/b", "d/ d/b a d/b", "d/ e/ d/b e/b d/b", "a b c d e f g a", "d/ d/b d"} {
		refused(t, entries(text)...)
	}
	for _, text := range []string{"d/ d/d", "a d/ d/a", "d/ e/ d/a e/a", "d/ e/ d/e e/d", "a aa aaa", "ab/ ab/c a/ a/bc"} {
		grown(t, text)
	}
}

// TestNewCaps: they are no matter of a tree's, whatever they are.
func TestNewCaps(t *testing.T) {
	for _, limit := range []int{math.MinInt, -1, 0, 1, 3, 4, 255, math.MaxInt} {
		x, e := tree.New([]api.Entry{{Path: "d", Dir: true, Cap: limit}, {Path: "d/b", Cap: limit}, {Path: "a", Cap: -limit}})
		if x == nil || e != api.OK {
			t.Fatalf("New with a cap of %d: %d", limit, int(e))
		}
		k := tested{t, x}
		k.finds("d", 0, dir)
		k.finds("d/b", 1, file)
		k.finds("a", 2, file)
	}
}

// TestNewEachFew: all lists of up to four entries of some kinds, held against the chapter word by word.
func TestNewEachFew(t *testing.T) {
	kinds := entries("a d d/a d/d a/d a/ d/ d/a/ e/ e/d")
	fine := 0
	var each func(l []api.Entry, more int)
	each = func(l []api.Entry, more int) {
		m, ok := &model{}, true
		for _, e := range l {
			_, no := m.Make(e.Path, e.Dir)
			ok = ok && no == 0
		}
		if x, e := tree.New(l); !ok {
			refused(t, l...)
		} else if e != api.OK || x == nil {
			t.Fatalf("New(%+v): %d", l, int(e))
		} else {
			fine++
			for _, c := range asks("a", "d", "d/a", "d/d", "a/d", "e", "e/d") {
				alike(t, x, m, c)
			}
			alike(t, x, m, call{what: "Make", path: "z"})
		}
		if more > 0 {
			for _, e := range append(kinds, api.Entry{Path: "A"}) {
				each(append(slices.Clip(l), e), more-1)
			}
		}
	}
	each(nil, 4)
	if fine < 250 {
		t.Errorf("%d lists are taken", fine)
	}
}

// TestNextNumbers: what is made behind New's has the next ones.
func TestNextNumbers(t *testing.T) {
	l := "d/ d/a b c d/d e/ e/a g"
	for n := range 9 {
		k := grown(t, strings.Join(strings.Fields(l)[:n], " "))
		for i, path := range []string{"u", "v", "w", "x", "y", "z", "s", "t"}[:8-n] {
			k.makes(path, i%3 == 0, n+i)
		}
		k.makesNot("h", file, api.NoSpace)
	}
}

// TestNoNumberTwice: whatever was dropped, moved upon or refused in between, the highest number or a lower one.
func TestNoNumberTwice(t *testing.T) {
	k := grown(t, "a d/ d/b c")
	k.drops("c", file)
	k.makes("c", file, 4)
	k.drops("a", file)
	k.makes("a", dir, 5)
	k.moves("c", "d/b", 2)
	k.makes("c", file, 6)
	k.moves("d/b", "c", 6)
	k.makesNot("a/x", dir, api.Invalid)
	k.makesNot("c", file, api.Exists)
	k.makesNot("c/x", file, api.NotDir)
	k.makesNot("x/x", file, api.NoEntry)
	k.makesNot("", file, api.NoEntry)
	k.makes("d/b", file, 7)
	k.drops("d/b", file)
	k.drops("c", file)
	k.drops("d", dir)
	k.drops("a", dir)
	k.size(0)
	for n := 8; n < 2000; n++ {
		k.makes("a", n%2 == 0, n)
		k.drops("a", n%2 == 0)
	}
	k.makes("d", dir, 2000)
	for n := 2001; n < 2300; n += 2 {
		k.makes("d/a", file, n)
		k.makes("b", file, n+1)
		k.moves("b", "d/a", n)
		k.drops("d/a", file)
	}
}

// TestFullTakesNoNumber: what a full tree refuses has none.
func TestFullTakesNoNumber(t *testing.T) {
	k := grown(t, "a b c d e f g h")
	for range 5 {
		k.makesNot("x", file, api.NoSpace)
	}
	k.drops("d", file)
	k.makes("x", file, 8)
}

// TestZeroTree: one that New did not make is empty.
func TestZeroTree(t *testing.T) {
	for _, k := range []tested{{t, &tree.Tree{}}, {t, (&tree.Tree{}).Copy()}} {
		k.size(0)
		k.lacks("a", api.NoEntry)
		k.lacks("d/a", api.NoEntry)
		k.dropsNot("a", file, api.NoEntry)
		k.dropsNot("a", dir, api.NoEntry)
		k.movesNot("a", "b", api.NoEntry)
		k.movesNot("a", "a", api.NoEntry)
		k.makesNot("d/a", file, api.NoEntry)
		k.makes("d", dir, 0)
		k.makes("d/a", file, 1)
	}
}

// TestListStays: it is neither changed nor kept, and what stands in its spare room is not looked at.
func TestListStays(t *testing.T) {
	for _, text := range []string{"", "a", "a d/ d/b", "d d/b", "d/ d/b/", "a b c d e f g h", "a b c d e f g h i", "a a"} {
		l := append(entries(text), entryOf("a"), entryOf("A"), entryOf("x/"))
		n := len(l) - 3
		was := slices.Clone(l)
		x, e := tree.New(l[:n])
		if !slices.Equal(l, was) {
			t.Fatalf("New(%+v), and then %+v", was[:n], l)
		}
		again, f := tree.New(slices.Clip(slices.Clone(l[:n])))
		if e != f || (x == nil) != (again == nil) {
			t.Fatalf("New(%+v): %d, and with spare room %d", l[:n], int(f), int(e))
		}
		told := look(x)
		for i := range l {
			l[i] = api.Entry{Path: "z", Dir: !l[i].Dir, Cap: 3}
		}
		if look(x) != told || look(again) != told {
			t.Errorf("%s: the list was written over, and there was %s, and is %s", text, told, look(x))
		}
	}
}

// TestPathsAreNotKept: a text whose bytes are written over behind the call.
func TestPathsAreNotKept(t *testing.T) {
	b := []byte("d/b")
	text := func(s string) string {
		copy(b, s)
		return unsafe.String(&b[0], len(s))
	}
	x, _ := tree.New([]api.Entry{{Path: text("d"), Dir: true}})
	k := tested{t, x}
	k.Make(text("d/b"), file)
	k.Make(text("c"), file)
	k.Move("c", text("d/c"))
	text("xyz")
	k.finds("d", 0, dir)
	k.finds("d/b", 1, file)
	k.finds("d/c", 2, file)
	k.many("d", 2)
}
