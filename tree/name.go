package tree

import "crossroads/names"

// A name is a path's two parts as one value, a key of a tree's map: the directory (empty: it has none), and the last part. The zero value is no name.
type name struct{ dir, last string }

// of answers the name that path is; the zero value, if it is none.
func of(path string) name {
	dir, last := names.Split(path)
	return name{dir: dir, last: last}
}

// deep tells whether n is in a directory.
func (n name) deep() bool {
	return n.dir != ""
}

// above answers the name of n's directory; the zero value, if it has none.
func (n name) above() name {
	return name{last: n.dir}
}
