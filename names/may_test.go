package names

import (
	"strings"
	"testing"

	"crossroads/api"
	"crossroads/check"
)

// P12.1, May: chapter 11's section 'A name'.

func TestMay(t *testing.T) {
	one, two, none := kinds()
	for _, s := range append(one, two...) {
		may(t, s, true)
	}
	for _, s := range none {
		may(t, s, false)
	}
}

func TestMayEmpty(t *testing.T) {
	may(t, "", false)
	may(t, "a", true)
}

// TestMayLongest: the longest text that is a name, of one part and of two, and one byte more.
func TestMayLongest(t *testing.T) {
	for n := 1; n <= 600; n++ {
		for _, c := range []string{"a", "7", "_"} {
			may(t, strings.Repeat(c, n), n <= 8)
		}
		may(t, strings.Repeat(".", n), 3 <= n && n <= 8)
	}
	for size := 3; size <= 9; size++ {
		for _, s := range twos(size) {
			may(t, s, size <= 8)
		}
	}
	for n := range 300 {
		may(t, "a/"+strings.Repeat("b", n), 1 <= n && n <= 6)
		may(t, strings.Repeat("a", n)+"/b", 1 <= n && n <= 6)
	}
}

// TestMayGreat: of a great text nothing but its size matters.
func TestMayGreat(t *testing.T) {
	for _, s := range []string{"a", "/", "a/", "a/b", ".", "\x00", "\xff", "é"} {
		may(t, strings.Repeat(s, 1<<22), false)
	}
}

// TestMayEachByte: alone, and in each place of a part.
func TestMayEachByte(t *testing.T) {
	for c := range 256 {
		b := string([]byte{byte(c)})
		good := strings.Contains(bytesOfParts, b)
		may(t, b, good && b != ".")
		may(t, b+"/a", good && b != ".")
		may(t, "a/"+b, good && b != ".")
		for at := range 8 {
			may(t, "abcdefgh"[:at]+b+"abcdefgh"[at+1:], good || b == "/" && 0 < at && at < 7)
		}
		for _, s := range twos(8) {
			for at := range 8 {
				if s[at] != '/' {
					may(t, s[:at]+b+s[at+1:], good && parts(s[:at]+b+s[at+1:]) != nil)
				}
			}
		}
	}
}

// TestMayEmptyPart: behind the stroke, ahead of it, or both.
func TestMayEmptyPart(t *testing.T) {
	for _, s := range []string{"a/", "/a", "/", "abcdefg/", "/bcdefgh", "./", "/..", ".../", "/..."} {
		may(t, s, false)
	}
}

// TestMayPoints: a part that is one point or two; with more in it, it is like any other.
func TestMayPoints(t *testing.T) {
	for _, points := range []string{".", ".."} {
		for _, s := range []string{points, points + "/a", "a/" + points, points + "/" + points, points + "/...", ".../" + points} {
			may(t, s, false)
		}
		for _, s := range []string{points + "a", "a" + points, "a" + points + "a", points + "_", points + "0", points + "a/b", "a" + points + "/b", "b/" + points + "a", "b/a" + points} {
			may(t, s, true)
		}
	}
	for _, s := range []string{"...", "........", ".../a", "a/...", ".../..."} {
		may(t, s, true)
	}
}

// TestMayStrokes: none, one, and more than one.
func TestMayStrokes(t *testing.T) {
	may(t, "abc", true)
	may(t, "a/bc", true)
	for _, s := range []string{"a/b/c", "a//b", "//", "/a/", "/a/b", "a/b/", "a/b/c/d", "...//a"} {
		may(t, s, false)
	}
}

// TestMayOfFew: all short texts of bytes that stand for the others, held against the rule word by word.
func TestMayOfFew(t *testing.T) {
	for _, s := range short(6, "a9_./A") {
		may(t, s, parts(s) != nil)
	}
	for _, s := range short(9, "a./") {
		may(t, s, parts(s) != nil)
	}
}

// TestMayAsCheck: one rule is held in two layers, that are not to part.
func TestMayAsCheck(t *testing.T) {
	for _, s := range append(all(), short(5, "a0_./B")...) {
		p := api.Prog{L: []api.Inst{{Op: api.IPush}, {Op: api.IExit}}, Names: []string{s}}
		_, e := check.Run(p)
		may(t, s, e == api.OK)
	}
}
