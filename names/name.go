package names

import (
	"strings"

	"crossroads/api"
)

// A name is two parts as one value, that may be held against others, and be a key: the directory (empty: it has none), and the last part.
type name struct{ dir, last string }

// of answers s's name; the zero value, if it is none.
func of(s string) name {
	if len(s) > api.MaxName {
		return name{}
	}
	ahead, behind, two := strings.Cut(s, "/")
	switch {
	case !isPart(ahead) || two && !isPart(behind):
		return name{}
	case two:
		return name{dir: ahead, last: behind}
	}
	return name{last: ahead}
}

// less tells whether n stands ahead of m.
func (n name) less(m name) bool {
	if n.dir != m.dir {
		return n.dir < m.dir
	}
	return n.last < m.last
}

// isPart tells whether s may be all of a name, or what stands ahead of its stroke or behind it.
func isPart(s string) bool {
	for i := range len(s) {
		if !mayStand(s[i]) {
			return false
		}
	}
	return s != "" && s != "." && s != ".."
}

// mayStand tells whether c may stand in a part.
func mayStand(c byte) bool {
	return 'a' <= c && c <= 'z' || '0' <= c && c <= '9' || c == '.' || c == '_'
}
