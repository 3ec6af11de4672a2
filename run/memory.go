package run

import "crossroads/api"

// space answers n bytes of memory from at on; where they are not all in it, false, and the run ends Outside. None are in it wherever they are.
func (m *machine) space(at uint16, n int) ([]byte, bool) {
	from, to := int(at), int(at)+n
	switch {
	case n == 0:
		return nil, true
	case to > api.Memory:
		m.end(api.Outside)
		return nil, false
	}
	return m.memory[from:to], true
}

// load puts the byte at an address on the stack.
func (m *machine) load(at uint16) {
	if b, in := m.space(at, 1); in {
		m.push(uint16(b[0]))
	}
}

// store puts n's lowest 8 bits at an address.
func (m *machine) store(at, n uint16) {
	if b, in := m.space(at, 1); in {
		b[0] = byte(n)
	}
}
