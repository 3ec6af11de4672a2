// Package wide reckons with numbers of 1, 8 and 16 bits: see DOC.md, chapter 1.
package wide

import (
	"crossroads/api"
)

// May tells whether numbers may be w bits wide.
func May(w int) bool {
	return w == 1 || w == 8 || w == 16
}

// Mask answers w ones; 0 if w may not be.
func Mask(w int) uint16 {
	if !May(w) {
		return 0
	}
	// At 16 the one is shifted out, and 0 less 1 wraps round to all ones.
	return uint16(1)<<uint(w) - 1
}

// Of answers n's lowest w bits; 0 if w may not be.
func Of(w, n int) uint16 {
	return uint16(n) & Mask(w)
}

// Signed answers a's lowest w bits as a number of two's complement; 0 if w may not be.
func Signed(w int, a uint16) int {
	if !May(w) {
		return 0
	}
	// With the number's highest bit where an int16 has its sign, the shift back draws that bit down.
	spare := uint(16 - w)
	return int(int16(a<<spare) >> spare)
}

// Do answers what op makes of a's and b's lowest w bits: ErrWidth, if w may not be; ErrOp, if op is none of Not to Lt.
func Do(op, w int, a, b uint16) (uint16, api.Errno) {
	if !May(w) {
		return 0, api.ErrWidth
	}
	if !listed(op) {
		return 0, api.ErrOp
	}
	m := Mask(w)
	a, b = a&m, b&m
	switch op {
	case api.Not:
		return ^a & m, api.OK
	case api.And, api.Or, api.Xor:
		return bitwise(op, a, b), api.OK
	case api.Shl, api.Shr:
		return shifted(op, a, b) & m, api.OK
	case api.Eq:
		return bit(a == b), api.OK
	case api.Lt:
		return bit(a < b), api.OK
	}
	return reckoned(op, m, a, b) & m, api.OK
}

// Out answers how wide that is which Do answers to op and w; 0 where Do refuses them.
func Out(op, w int) int {
	switch {
	case !May(w) || !listed(op):
		return 0
	case op == api.Eq || op == api.Lt:
		return 1
	}
	return w
}

// listed tells whether op is one of Do's operators: package api numbers them without a gap, from Not to Lt.
func listed(op int) bool {
	return api.Not <= op && op <= api.Lt
}

// bitwise is And, Or or Xor.
func bitwise(op int, a, b uint16) uint16 {
	switch op {
	case api.And:
		return a & b
	case api.Or:
		return a | b
	}
	return a ^ b
}

// shifted is Shl or Shr. A count of a's width or more needs no case of its own: Shr has no bit left then, and what Shl has lies above the width.
func shifted(op int, a, b uint16) uint16 {
	if op == api.Shl {
		return a << b
	}
	return a >> b
}

// reckoned is Add, Sub, Mul, Div or Mod of numbers as wide as the mask m; bits above m may come with it.
func reckoned(op int, m, a, b uint16) uint16 {
	switch {
	case op == api.Add:
		return a + b
	case op == api.Sub:
		return a - b
	case op == api.Mul:
		return a * b
	case op == api.Div && b == 0:
		return m
	case op == api.Div:
		return a / b
	case b == 0: // Mod
		return a
	}
	return a % b
}

// bit is a truth as a number of one bit.
func bit(b bool) uint16 {
	if b {
		return 1
	}
	return 0
}
