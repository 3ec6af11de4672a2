package tree

import "crossroads/api"

// place answers 0 where n's directory is there, or it needs none: NoEntry, if n is no name, or its directory is not there; NotDir, if that is a file.
func (t *Tree) place(n name) uint16 {
	switch {
	case n == name{}:
		return api.NoEntry
	case !n.deep():
		return 0
	}
	above, there := t.entries[n.above()]
	switch {
	case !there:
		return api.NoEntry
	case !above.dir:
		return api.NotDir
	}
	return 0
}

// find answers what is at n: place's numbers, and NoEntry, beside an entry of number -1.
func (t *Tree) find(n name) (entry, uint16) {
	if no := t.place(n); no != 0 {
		return entry{number: -1}, no
	}
	e, there := t.entries[n]
	if !there {
		return entry{number: -1}, api.NoEntry
	}
	return e, 0
}

// mayMake answers 0 where n may be made, else why not.
func (t *Tree) mayMake(n name, dir bool) uint16 {
	if no := t.place(n); no != 0 {
		return no
	}
	_, there := t.entries[n]
	switch {
	case there:
		return api.Exists
	case dir && n.deep():
		return api.Invalid
	case len(t.entries) >= api.MaxEntries:
		return api.NoSpace
	}
	return 0
}

// mayDrop answers 0 where n may be dropped as a file or as a directory, else why not.
func (t *Tree) mayDrop(n name, dir bool) uint16 {
	e, no := t.find(n)
	switch {
	case no != 0:
		return no
	case e.dir && !dir:
		return api.IsDir
	case dir && !e.dir:
		return api.NotDir
	case t.many(n) > 0:
		return api.NotEmpty
	}
	return 0
}

// mayMove answers 0 where what is at from may be put to the path to, else why not.
func (t *Tree) mayMove(from, to name) uint16 {
	e, no := t.find(from)
	switch {
	case no != 0:
		return no
	case e.dir:
		return api.IsDir
	}
	if no := t.place(to); no != 0 {
		return no
	}
	if t.entries[to].dir { // one path twice is no directory, as from is none
		return api.IsDir
	}
	return 0
}

// many answers how many n has; of a file, none.
func (t *Tree) many(n name) int {
	count := 0
	for m := range t.entries {
		if m.above() == n {
			count++
		}
	}
	return count
}
