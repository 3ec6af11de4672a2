package room

import (
	"bytes"
	"slices"
	"testing"

	"crossroads/api"
)

func TestBytes(t *testing.T) {
	for text, want := range map[string][]byte{"a": {'a'}, "_": {0}, "x_y\xff": {'x', 0, 'y', 255}} {
		b := Bytes(text)
		if !bytes.Equal(b, want) || cap(b) == len(b) || b[:cap(b)][len(b)] == 0 {
			t.Errorf("Bytes(%q) = %q, room %d", text, b, cap(b)-len(b))
		}
	}
	if b := Bytes(""); b != nil {
		t.Errorf("Bytes of nothing = %q", b)
	}
}

func TestEntries(t *testing.T) {
	for text, want := range map[string][]api.Entry{
		"":             nil,
		"a":            {{Path: "a"}},
		"d/":           {{Path: "d", Dir: true}},
		"a=xy  d/ d/b": {{Path: "a"}, {Path: "d", Dir: true}, {Path: "d/b"}},
	} {
		l, data := Entries(text)
		if !slices.Equal(l, want) || cap(l) == len(l) || l[:cap(l)][len(l)] == (api.Entry{}) || cap(data) == len(data) || data[:cap(data)][len(data)] == nil {
			t.Errorf("Entries(%q) = %v, %q", text, l, data)
		}
	}
	_, data := Entries("a=xy d/ d/b c=_1")
	if !slices.EqualFunc(data, [][]byte{[]byte("xy"), nil, {0, '1'}}, bytes.Equal) {
		t.Errorf("%q", data)
	}
}
