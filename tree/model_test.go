package tree_test

import (
	"fmt"
	"math/rand"
	"slices"
	"strings"
	"testing"

	"crossroads/api"
	"crossroads/names"
	"crossroads/tree"
)

// A row is what is at a path.
type row struct {
	path   string
	number int
	dir    bool
}

// model is the chapter word by word, over a list of paths: what a tree is held against.
type model struct {
	rows []row
	next int
}

// at is the place of the row of that path, or -1.
func (m *model) at(path string) int {
	return slices.IndexFunc(m.rows, func(r row) bool { return r.path == path })
}

// ahead is why what stands ahead of the stroke is no directory; 0, if there is no stroke.
func (m *model) ahead(path string) uint16 {
	above, _, two := strings.Cut(path, "/")
	i := m.at(above)
	switch {
	case !names.May(path):
		return api.NoEntry
	case !two:
		return 0
	case i < 0:
		return api.NoEntry
	case !m.rows[i].dir:
		return api.NotDir
	}
	return 0
}

func (m *model) Find(path string) (int, bool, uint16) {
	i := m.at(path)
	switch no := m.ahead(path); {
	case no != 0:
		return -1, false, no
	case i < 0:
		return -1, false, api.NoEntry
	}
	return m.rows[i].number, m.rows[i].dir, 0
}

func (m *model) Make(path string, isDir bool) (int, uint16) {
	switch no := m.ahead(path); {
	case no != 0:
		return -1, no
	case m.at(path) >= 0:
		return -1, api.Exists
	case isDir && strings.Contains(path, "/"):
		return -1, api.Invalid
	case len(m.rows) >= 8:
		return -1, api.NoSpace
	}
	m.rows = append(m.rows, row{path, m.next, isDir})
	m.next++
	return m.next - 1, 0
}

func (m *model) Drop(path string, isDir bool) uint16 {
	_, d, no := m.Find(path)
	switch {
	case no != 0:
		return no
	case !isDir && d:
		return api.IsDir
	case isDir && !d:
		return api.NotDir
	case isDir && m.Many(path) > 0:
		return api.NotEmpty
	}
	m.rows = slices.Delete(m.rows, m.at(path), m.at(path)+1)
	return 0
}

func (m *model) Move(from, to string) (int, uint16) {
	_, d, no := m.Find(from)
	switch {
	case no != 0:
		return -1, no
	case d:
		return -1, api.IsDir
	case m.ahead(to) != 0:
		return -1, m.ahead(to)
	case from == to:
		return -1, 0
	}
	out, d, no := m.Find(to)
	if d {
		return -1, api.IsDir
	}
	if no == 0 {
		m.rows = slices.Delete(m.rows, m.at(to), m.at(to)+1)
	}
	m.rows[m.at(from)].path = to
	return out, 0
}

func (m *model) Many(path string) uint16 {
	_, d, no := m.Find(path)
	switch {
	case no != 0:
		return no
	case !d:
		return api.NotDir
	}
	var count uint16
	for _, r := range m.rows {
		if strings.HasPrefix(r.path, path+"/") {
			count++
		}
	}
	return count
}

func (m *model) Len() int { return len(m.rows) }

// copied is a model that goes its own way.
func (m *model) copied() *model { return &model{slices.Clone(m.rows), m.next} }

// calls are what a tree and its model have in common.
type calls interface {
	Find(path string) (int, bool, uint16)
	Make(path string, dir bool) (int, uint16)
	Drop(path string, dir bool) uint16
	Move(from, to string) (int, uint16)
	Many(path string) uint16
	Len() int
}

// A call is a name of a method, and what it is called with.
type call struct {
	what     string
	path, to string
	dir      bool
}

// of is what it answers.
func (c call) of(x calls) string {
	switch c.what {
	case "Find":
		return fmt.Sprintln(x.Find(c.path))
	case "Make":
		return fmt.Sprintln(x.Make(c.path, c.dir))
	case "Drop":
		return fmt.Sprintln(x.Drop(c.path, c.dir))
	case "Move":
		return fmt.Sprintln(x.Move(c.path, c.to))
	case "Many":
		return fmt.Sprintln(x.Many(c.path))
	}
	return fmt.Sprintln(x.Len())
}

// some are all calls that may change a tree, of these paths.
func some(paths ...string) []call {
	var l []call
	for _, path := range paths {
		for _, isDir := range []bool{file, dir} {
			l = append(l, call{what: "Make", path: path, dir: isDir}, call{what: "Drop", path: path, dir: isDir})
		}
		for _, to := range paths {
			l = append(l, call{what: "Move", path: path, to: to})
		}
	}
	return l
}

// asks are all calls that change no tree, of these paths.
func asks(paths ...string) []call {
	l := []call{{what: "Len"}}
	for _, path := range paths {
		l = append(l, call{what: "Find", path: path}, call{what: "Many", path: path})
	}
	return l
}

// alike fails the test where a tree and its model answer otherwise.
func alike(t *testing.T, x *tree.Tree, m *model, c call) {
	t.Helper()
	was := fmt.Sprint(m.rows)
	if got, want := c.of(x), c.of(m); got != want {
		t.Fatalf("%+v of %s: %s; want %s", c, was, got, want)
	}
}

// TestEachFewCalls: all calls behind all calls, from empty and from grown trees, each on a copy of its own.
func TestEachFewCalls(t *testing.T) {
	l := []string{"a", "d", "d/a", "d/d", "a/d", "a/"}
	change, ask := some(l...), asks(l...)
	var each func(x *tree.Tree, m *model, more int)
	each = func(x *tree.Tree, m *model, more int) {
		for _, c := range change {
			y, n := x.Copy(), m.copied()
			alike(t, y, n, c)
			for _, c := range ask {
				alike(t, y, n, c)
			}
			if more > 0 {
				each(y, n, more-1)
			}
		}
	}
	for _, text := range []string{"", "a", "d/ d/a", "d/ d/d a", "a/ a/d d", "e/ e/a b c d/ d/a d/d", "a d/ d/a c d/d b g e"} {
		m := &model{}
		for _, e := range entries(text) {
			m.Make(e.Path, e.Dir)
		}
		each(grown(t, text).Tree, m, 1)
	}
	each(grown(t, "").Tree, &model{}, 2)
}

// TestRandomCalls: long rows of calls of any kind, on trees of which now and then one is a copy.
func TestRandomCalls(t *testing.T) {
	r := rand.New(rand.NewSource(13))
	l := []string{"a", "b", "c", "d", "e", "d/a", "d/b", "d/d", "e/a", "e/d", "a/a", "b/d", "c/c", "", "d/", "/d", "d/a/a", "D"}
	change, ask := some(l...), asks(l...)
	full, most := 0, 0
	for range 80 {
		x, m := grown(t, "").Tree, &model{}
		for range 3000 {
			if m.Len() == 8 {
				full++
			}
			c := call{what: []string{"Make", "Make", "Drop"}[r.Intn(3)], path: l[r.Intn(13)], dir: r.Intn(3) == 0}
			switch r.Intn(4) {
			case 0:
				c = ask[r.Intn(len(ask))]
			case 1:
				c = change[r.Intn(len(change))]
			}
			alike(t, x, m, c)
			if r.Intn(8) == 0 {
				y := x.Copy()
				y.Make("z", file)
				y.Drop("a", file)
				if r.Intn(2) == 0 {
					x = x.Copy()
				}
			}
		}
		for _, c := range ask {
			alike(t, x, m, c)
		}
		most = max(most, m.next)
	}
	if full < 10000 || most < 100 {
		t.Errorf("%d calls met a full tree, and the highest number is %d", full, most)
	}
}
