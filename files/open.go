package files

import "crossroads/api"

// open is a file that is open, and its offset: twins share one, by its number.
type open struct {
	file int // its number
	at   int
}

// Open answers the least free descriptor, as which the file at path is open then, an empty one if there was none: IsDir, NotDir, NoEntry, ManyFds, NoSpace.
func (f *Files) Open(path string) uint16 {
	if f.none() {
		return 0
	}
	if no := f.mayReach(path); no != 0 {
		return no
	}
	fd, no := f.free()
	if no != 0 {
		return no
	}
	number, no := f.reach(path)
	if no != 0 {
		return no
	}
	f.opens[f.next] = open{file: number}
	f.fds[fd] = f.next
	f.next++
	return fd
}

// Twin answers the least free descriptor, which shares file and offset with fd then: BadFd, ManyFds.
func (f *Files) Twin(fd uint16) uint16 {
	number, no, is := f.opened(fd)
	if !is {
		return no
	}
	twin, no := f.free()
	if no != 0 {
		return no
	}
	f.fds[twin] = number
	return twin
}

// Close makes a descriptor free: BadFd.
func (f *Files) Close(fd uint16) uint16 {
	number, no, is := f.opened(fd)
	if !is {
		return no
	}
	delete(f.fds, fd)
	for _, twin := range f.fds {
		if twin == number {
			return 0
		}
	}
	o := f.opens[number]
	delete(f.opens, number)
	f.forget(o.file)
	return 0
}

// opened answers the number in opens of what is open as fd; false where nothing is, beside what the call answers then: BadFd, or nil's 0.
func (f *Files) opened(fd uint16) (int, uint16, bool) {
	if f.none() {
		return 0, 0, false
	}
	n, is := f.fds[fd]
	if !is {
		return 0, api.BadFd, false
	}
	return n, 0, true
}

// free answers the least descriptor that is not open: ManyFds.
func (f *Files) free() (uint16, uint16) {
	for fd := range uint16(api.MaxFds) {
		if _, is := f.fds[fd]; !is {
			return fd, 0
		}
	}
	return 0, api.ManyFds
}

// mayReach answers 0 where there is a file at path, or would be one if there was room for it: IsDir, NotDir, NoEntry.
func (f *Files) mayReach(path string) uint16 {
	_, isDir, no := f.tree.Find(path)
	switch {
	case isDir:
		return api.IsDir
	case no != api.NoEntry:
		return no
	}
	// Whether it is the file that is not there or its directory only Make tells: of a copy, as there may be no descriptor for what it makes.
	_, no = f.tree.Copy().Make(path, false)
	if no == api.NoSpace {
		return 0
	}
	return no
}

// reach answers the number of the file at path, which it makes, empty, if there is none: NoSpace.
func (f *Files) reach(path string) (int, uint16) {
	if number, _, no := f.tree.Find(path); no == 0 {
		return number, 0
	}
	number, no := f.tree.Make(path, false)
	if no == 0 {
		f.files[number] = file{}
	}
	return number, no
}
