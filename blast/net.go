package blast

import "crossroads/api"

// widest is how wide a term may be, and so how many inputs a gate needs at most.
const widest = 16

// The kinds of gates.
const (
	allOf    = iota + 1 // holds where all inputs do
	oddOf               // where an odd number of its two or three inputs do
	mostOf              // where two of its three inputs do, or all
	eitherOf            // where the first input and the second do, or the third and not the first
)

// A gate is what a variable stands for: a Var's bit where it has no kind, else what hangs on its inputs, which are ahead of it; 0 where there are no more.
type gate struct {
	kind int32
	in   [widest]literal
}

// A net is a formula: its variables, each settled by the clauses of its gate and those of the gates ahead.
type net struct {
	gates   []gate           // of the variables from 1 on
	found   map[gate]literal // so that what is alike is there but once
	clauses [][]literal
	full    bool // more than MaxLits variables were asked for
}

// size is how much there is of a net.
type size struct{ gates, clauses int }

func newNet() net {
	return net{found: map[gate]literal{}}
}

// size answers how much there is.
func (n *net) size() size {
	return size{len(n.gates), len(n.clauses)}
}

// back takes away all that came since there was so much.
func (n *net) back(s size) {
	for _, g := range n.gates[s.gates:] {
		delete(n.found, g)
	}
	n.gates, n.clauses, n.full = n.gates[:s.gates], n.clauses[:s.clauses], false
}

// inputs answers w new variables that hang on nothing.
func (n *net) inputs(w int) row {
	r := make(row, w)
	for i := range r {
		r[i] = n.variable(gate{})
	}
	return r
}

// variable answers a new variable for g; 0 where there is no room: what is made with it is taken away again.
func (n *net) variable(g gate) literal {
	if len(n.gates) >= api.MaxLits {
		n.full = true
		return 0
	}
	n.gates = append(n.gates, g)
	return literal(len(n.gates))
}

// gate answers the variable of a gate, the one that is there or a new one with its clauses.
func (n *net) gate(kind int32, in ...literal) literal {
	g := gate{kind: kind}
	copy(g.in[:], in)
	if v, ok := n.found[g]; ok {
		return v
	}
	v := n.variable(g)
	if v != 0 {
		n.found[g] = v
		n.tie(kind, v, in)
	}
	return v
}

// plain answers a row as whole numbers, each a literal: yes and no are those of a variable that always holds.
func (n *net) plain(a row) []int {
	r := numbers(a)
	for i, x := range a {
		switch x {
		case yes:
			r[i] = int(n.gate(allOf))
		case no:
			r[i] = -int(n.gate(allOf))
		}
	}
	return r
}
