package check

import (
	"strings"

	"crossroads/api"
)

// isName tells whether s is a name: one part, or two with a stroke between them.
func isName(s string) bool {
	if len(s) > api.MaxName {
		return false
	}
	ahead, behind, two := strings.Cut(s, "/")
	return isPart(ahead) && (!two || isPart(behind))
}

// isPart tells whether s may be all of a name, or what stands ahead of its stroke or behind it.
func isPart(s string) bool {
	for i := range len(s) {
		if !isLetter(s[i]) {
			return false
		}
	}
	return s != "" && s != "." && s != ".."
}

// isLetter tells whether c may stand in a part.
func isLetter(c byte) bool {
	return 'a' <= c && c <= 'z' || '0' <= c && c <= '9' || c == '.' || c == '_'
}
