package fails_test

import (
	"slices"
	"strings"
	"testing"

	"crossroads/fails"
)

// list are the entries that a text of 1 (it fails) and 0 tells, with spare room in which more of them stand.
func list(s string) []bool {
	l := make([]bool, 0, len(s)+4)
	for _, c := range s {
		l = append(l, c == '1')
	}
	return append(l, true, false, true, true)[:len(s)]
}

// text is a list as list reads it.
func text(l []bool) string {
	var b strings.Builder
	for _, fail := range l {
		b.WriteByte("01"[bit(fail)])
	}
	return b.String()
}

func bit(b bool) int {
	if b {
		return 1
	}
	return 0
}

// lists are the texts of all lists of at most n entries.
func lists(n int) []string {
	all := []string{""}
	for i := 0; len(all[i]) < n; i++ {
		all = append(all, all[i]+"0", all[i]+"1")
	}
	return all
}

// long has n entries, in a row that does not come again soon.
func long(n int) string {
	b := make([]byte, n)
	for i := range b {
		b[i] = "01"[i*i*i/7%11%2]
	}
	return string(b)
}

// asks fails the test where the next entries of f are not those of want, one by one, or Used is not one more with each.
func asks(t *testing.T, f *fails.Fails, want string) {
	t.Helper()
	was := f.Used()
	for i := range len(want) {
		if got := f.Next(); got != (want[i] == '1') {
			t.Fatalf("entry %d of %q: Next = %v", i, want, got)
		}
		used(t, f, was+i+1)
	}
}

// behind fails the test where f has an entry still, however often it is asked.
func behind(t *testing.T, f *fails.Fails) {
	t.Helper()
	was := f.Used()
	for i := range 20 {
		if f.Next() {
			t.Fatalf("behind %d entries: Next = true at the %d. time", was, i+1)
		}
		used(t, f, was)
	}
}

// used fails the test where Used of f is not want, however often it is asked.
func used(t *testing.T, f *fails.Fails, want int) {
	t.Helper()
	for range 3 {
		if n := f.Used(); n != want {
			t.Fatalf("Used = %d; want %d", n, want)
		}
	}
}

// may fails the test where May of the list that s tells is not want, or changes the list.
func may(t *testing.T, s string, calls, most int, want bool) {
	t.Helper()
	l := list(s)
	whole := slices.Clone(l[:cap(l)])
	if fails.May(l, calls, most) != want {
		t.Errorf("May(%q, %d, %d) = %v", s, calls, most, !want)
	}
	if !slices.Equal(l[:cap(l)], whole) {
		t.Errorf("May(%q, %d, %d) changed its list", s, calls, most)
	}
}
