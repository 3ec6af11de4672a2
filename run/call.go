package run

import "crossroads/api"

// answer is what a call does with its number: it is on the stack, and is shown.
func (m *machine) answer(n uint16) {
	m.push(n)
	m.show(api.Event{Val: n})
}

// read puts what is read into memory: only what came needs room there.
func (m *machine) read(fd, at, count uint16) {
	b, n := m.files.Read(fd, count)
	if to, in := m.space(at, len(b)); in {
		copy(to, b)
		m.answer(n)
	}
}

// write writes bytes of memory: all of them are in it ahead of whether they can be written.
func (m *machine) write(fd, at, count uint16) {
	if b, in := m.space(at, int(count)); in {
		m.answer(m.files.Write(fd, b))
	}
}

// arg answers a byte of an argument; Nothing, if there is none.
func (m *machine) arg(text, at uint16) uint16 {
	if int(text) >= len(m.args) || int(at) >= len(m.args[text]) {
		return api.Nothing
	}
	return uint16(m.args[text][at])
}
