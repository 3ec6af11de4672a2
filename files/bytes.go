package files

import (
	"slices"

	"crossroads/api"
)

// last is the greatest offset that Seek takes.
const last = 255

// Size answers how many bytes the file has that is open as fd: BadFd.
func (f *Files) Size(fd uint16) uint16 {
	number, no, is := f.opened(fd)
	if !is {
		return no
	}
	o := f.opens[number]
	return uint16(f.files[o.file].size)
}

// Seek sets the offset, and answers it: BadFd, Invalid.
func (f *Files) Seek(fd, at uint16) uint16 {
	number, no, is := f.opened(fd)
	switch {
	case !is:
		return no
	case at > last:
		return api.Invalid
	}
	o := f.opens[number]
	o.at = int(at)
	f.opens[number] = o
	return at
}

// Trunc gives the file n bytes: it is cut, or noughts are put behind. The offset stays: BadFd, Invalid.
func (f *Files) Trunc(fd, n uint16) uint16 {
	number, no, is := f.opened(fd)
	switch {
	case !is:
		return no
	case n > api.MaxSize:
		return api.Invalid
	}
	o := f.opens[number]
	x := f.files[o.file]
	clear(x.bytes[n:])
	x.size = int(n)
	f.files[o.file] = x
	return 0
}

// Read answers the bytes from the offset on, at most n, and how many there are. The offset goes behind them: BadFd.
func (f *Files) Read(fd, n uint16) ([]byte, uint16) {
	number, no, is := f.opened(fd)
	if !is {
		return nil, no
	}
	o := f.opens[number]
	x := f.files[o.file]
	from := min(o.at, x.size)
	to := min(from+int(n), x.size)
	o.at += to - from
	f.opens[number] = o
	return slices.Clone(x.bytes[from:to]), uint16(to - from)
}

// Write puts as many bytes of b at the offset as fit below MaxSize, and answers how many. The offset goes behind them: BadFd, NoSpace.
func (f *Files) Write(fd uint16, b []byte) uint16 {
	number, no, is := f.opened(fd)
	if !is || len(b) == 0 {
		return no
	}
	o := f.opens[number]
	if o.at >= api.MaxSize {
		return api.NoSpace
	}
	x := f.files[o.file]
	n := copy(x.bytes[o.at:], b)
	x.size = max(x.size, o.at+n)
	f.files[o.file] = x
	o.at += n
	f.opens[number] = o
	return uint16(n)
}
