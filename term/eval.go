package term

import (
	"crossroads/api"
	"crossroads/wide"
)

// few is how many values are reckoned before they are remembered: most terms are small, and cheaper reckoned twice than kept.
const few = 64

// evaluation is one reckoning of terms under an assignment.
type evaluation struct {
	arena *Arena
	env   []uint16
	count int          // how many values were reckoned
	seen  map[T]uint16 // those beyond the first few: else a term that stands in many would be gone through once for each way to it
}

// Eval answers x's value where Var id is env[id]'s lowest bits (0: env has it not); 0 of no term.
func (a *Arena) Eval(x T, env []uint16) uint16 {
	v := evaluation{arena: a, env: env}
	return v.value(x)
}

// value answers what x is worth; 0 of no term.
func (v *evaluation) value(x T) uint16 {
	n, _ := v.arena.Node(x)
	switch n.Op {
	case 0:
		return 0
	case api.Const:
		return n.Val
	case api.Var:
		return v.variable(n)
	}
	if r, ok := v.seen[x]; ok {
		return r
	}
	r := v.reckon(n)
	v.keep(x, r)
	return r
}

// variable answers what a Var is worth.
func (v *evaluation) variable(n Node) uint16 {
	if int(n.Val) >= len(v.env) {
		return 0
	}
	return v.env[n.Val] & wide.Mask(n.W)
}

// reckon answers what a node with parts is worth.
func (v *evaluation) reckon(n Node) uint16 {
	switch n.Op {
	case api.Ite:
		if v.value(n.A) == 1 {
			return v.value(n.B)
		}
		return v.value(n.C)
	case api.Ext, api.Cut:
		return v.value(n.A) & wide.Mask(n.W)
	}
	// Not has no second part, which is worth 0.
	r, _ := wide.Do(n.Op, v.arena.Width(n.A), v.value(n.A), v.value(n.B))
	return r
}

// keep remembers that x is worth r, from the first few on.
func (v *evaluation) keep(x T, r uint16) {
	v.count++
	if v.count <= few {
		return
	}
	if v.seen == nil {
		v.seen = map[T]uint16{}
	}
	v.seen[x] = r
}
