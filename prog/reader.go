package prog

import "crossroads/api"

// reader goes through bytes. It answers 0 and empty texts from where they end too soon on, so that one look at short, behind all else, is enough.
type reader struct {
	left  []byte
	short bool
}

// next answers the next n bytes.
func (r *reader) next(n int) []byte {
	if n > len(r.left) {
		r.left, r.short = nil, true
		return nil
	}
	head := r.left[:n]
	r.left = r.left[n:]
	return head
}

// number answers the number that the next n bytes make, the highest first.
func (r *reader) number(n int) int {
	v := 0
	for _, x := range r.next(n) {
		v = v<<8 | int(x)
	}
	return v
}

// parse answers what b tells of a program, whether or not Bytes would refuse it; false, if it has not the form.
func parse(b []byte) (api.Prog, bool) {
	r := &reader{left: b}
	if r.number(2) != mark {
		return api.Prog{}, false
	}
	var p api.Prog
	for range r.number(1) {
		length := r.number(1)
		p.Names = append(p.Names, string(r.next(length)))
	}
	for range r.number(1) {
		op := r.number(1)
		a := r.number(2)
		p.L = append(p.L, api.Inst{Op: op, A: a})
	}
	return p, !r.short && len(r.left) == 0
}
