package names

import (
	"slices"
	"strings"
	"testing"
)

// bytesOfParts may stand in a part, no other byte may.
const bytesOfParts = ".0123456789_abcdefghijklmnopqrstuvwxyz"

// parts is chapter 11's section 'A name', word by word: the parts of s, none if it is no name.
func parts(s string) []string {
	if len(s) < 1 || len(s) > 8 || strings.Count(s, "/") > 1 {
		return nil
	}
	l := strings.Split(s, "/")
	for _, part := range l {
		if slices.Contains([]string{"", ".", ".."}, part) {
			return nil
		}
		for _, c := range []byte(part) {
			if !slices.Contains([]byte(bytesOfParts), c) {
				return nil
			}
		}
	}
	return l
}

// pair is s's directory and its last part, either of them empty where there is none.
func pair(s string) []string {
	switch l := parts(s); len(l) {
	case 1:
		return []string{"", l[0]}
	case 2:
		return l
	}
	return []string{"", ""}
}

// short are all texts of at most n bytes, each one of those of abc.
func short(n int, abc string) []string {
	l := []string{""}
	for from, size := 0, 1; size <= n; size++ {
		to := len(l)
		for _, s := range l[from:to] {
			for i := range len(abc) {
				l = append(l, s+abc[i:i+1])
			}
		}
		from = to
	}
	return l
}

// twos are all texts of eight bytes or of nine that are two parts of letters, with the stroke in each place.
func twos(size int) []string {
	var l []string
	for at := 1; at < size-1; at++ {
		l = append(l, "abcdefghi"[:at]+"/"+"rstuvwxyz"[:size-at-1])
	}
	return l
}

// kinds are names, of one part and of two, and texts that are none, of each kind that chapter 11 tells.
func kinds() (one, two, none []string) {
	one = []string{
		"a", "z", "0", "9", "_", "b.txt", "...", "....", ".a", "..a", "a.", "a..", "._", "_.", "0.", "a_b", "abcdefgh", "........", "12345678",
	}
	two = []string{
		"d/b", "a/a", "a/b", "0/9", "_/_", ".../a", "a/...", ".a/.b", "..a/b", "a../b", "a/..b", "a/b..", "abcdef/g", "a/cdefgh", "abc/efgh", ".../..a", "..../...",
	}
	none = []string{
		"", "/", "//", "a/", "/a", "a//", "//a", "a//b",
		".", "..", "./a", "../a", "a/.", "a/..", "./.", "../..", "./..", "../.", "./", "/.", "../", "/..",
		"a/b/c", "/a/b", "a/b/", "a/b/c/d", "1/2/3/4", "///",
		"abcdefghi", ".........", "abcd/fghi", "a/cdefghi", "abcdefg/i", "/bcdefghi", "abcdefgh/", "./cdefghi", strings.Repeat("a", 255), strings.Repeat("a", 256), strings.Repeat("a", 1<<16+1), strings.Repeat("/", 1<<16),
		"A", "Z", "aB", "A/b", "a/B", "a b", " ", " a", "a ", "a / b", "\x00", "a\x00", "\x00/a", "a\n", "-", "a-b", "a+b", "a\\b", "a,b", "a:b", "`", "{", "@", "[", "^", "*", "?", "~",
		"é", "aé", "é/a", "a/é", "ａ", "\xff", "a\x80", "\xe1", "a/\xc3", "\xafa",
	}
	return one, two, none
}

// all are those of all kinds.
func all() []string {
	return slices.Concat(kinds())
}

// may fails the test where May of s is not want.
func may(t *testing.T, s string, want bool) {
	t.Helper()
	if May(s) != want {
		t.Errorf("May(%q) = %v", s, !want)
	}
}

// splits fails the test where Split of s is not dir and last.
func splits(t *testing.T, s, dir, last string) {
	t.Helper()
	if d, l := Split(s); d != dir || l != last {
		t.Errorf("Split(%q) = %q, %q; want %q, %q", s, d, l, dir, last)
	}
}

// deep fails the test where Deep of s is not want.
func deep(t *testing.T, s string, want int) {
	t.Helper()
	if n := Deep(s); n != want {
		t.Errorf("Deep(%q) = %d; want %d", s, n, want)
	}
}

// less fails the test where Less of a and b is not want.
func less(t *testing.T, a, b string, want bool) {
	t.Helper()
	if Less(a, b) != want {
		t.Errorf("Less(%q, %q) = %v", a, b, !want)
	}
}
