package files

import (
	"testing"

	"crossroads/api"
)

// TestKept: no more is kept than what is in the tree or open, though each path was made, opened and taken away many times.
func TestKept(t *testing.T) {
	f, e := New([]api.Entry{{Path: "a"}, {Path: "d", Dir: true}, {Path: "d/b"}}, [][]byte{{1}, {2}})
	if e != api.OK {
		t.Fatal(e)
	}
	kept := func(files, opens, fds int) {
		t.Helper()
		if len(f.files) != files || len(f.opens) != opens || len(f.fds) != fds {
			t.Errorf("%d files, %d opens, %d descriptors; want %d, %d, %d", len(f.files), len(f.opens), len(f.fds), files, opens, fds)
		}
	}
	kept(2, 0, 0)
	for range 100 {
		one, two, twin := f.Open("x"), f.Open("x"), f.Twin(0)
		kept(3, 2, 3)
		f.Unlink("x")
		kept(3, 2, 3)
		f.Open("y")
		kept(4, 3, 4)
		f.Rename("y", "d/b")
		kept(3, 3, 4) // the one that was there is gone
		f.Close(one)
		kept(3, 3, 3)
		f.Close(two)
		kept(3, 2, 2)
		f.Close(twin)
		kept(2, 1, 1)
		f.Open("d/b")
		f.Rename("a", "d/b")
		kept(2, 2, 2)
		f.Open("a")
		kept(3, 3, 3)
		for fd := range uint16(api.MaxFds) {
			f.Close(fd)
		}
		kept(2, 0, 0)
	}
	f.Unlink("a")
	f.Unlink("d/b")
	kept(0, 0, 0)
}
