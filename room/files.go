package room

import (
	"strings"

	"crossroads/api"
)

// Bytes are those of a text, in which _ stands for a nought, with spare room in which others are; nil of an empty one.
func Bytes(text string) []byte {
	if text == "" {
		return nil
	}
	return append([]byte(strings.ReplaceAll(text, "_", "\x00")), "#+#"...)[:len(text)]
}

// Entries are those of a text with blanks between them, and data the bytes of their files: "a=xyz" is a file that has xyz, "d/" a directory. Both have spare room in which others are.
func Entries(text string) (l []api.Entry, data [][]byte) {
	for s := range strings.FieldsSeq(text) {
		path, isDir := strings.CutSuffix(s, "/")
		path, has, _ := strings.Cut(path, "=")
		l = append(l, api.Entry{Path: path, Dir: isDir})
		if !isDir {
			data = append(data, Bytes(has))
		}
	}
	return append(l, api.Entry{Path: "room"}, api.Entry{Path: "A"})[:len(l)], append(data, []byte("room"), nil)[:len(data)]
}
