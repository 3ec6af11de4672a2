package check

import (
	"fmt"
	"slices"
	"strconv"
	"strings"
	"testing"

	"crossroads/api"
	"crossroads/inst"
)

const first, last = api.IPush, api.IArg // the instructions' numbers

// code is the program of that text: instructions with a semicolon between them, each its name and, where it is not 0, its A.
func code(text string) api.Prog {
	numbers := map[string]int{}
	for op := first; op <= last; op++ {
		numbers[inst.Name(op)] = op
	}
	var p api.Prog
	for _, line := range strings.Split(text, ";") {
		words := strings.Fields(line)
		i := api.Inst{Op: numbers[words[0]]}
		if len(words) > 1 {
			i.A, _ = strconv.Atoi(words[1])
		}
		p.L = append(p.L, i)
	}
	return p
}

// with is p with these names.
func with(p api.Prog, names ...string) api.Prog { return api.Prog{L: p.L, Names: names} }

// repeat is n times the text, and then the rest.
func repeat(n int, text, rest string) string { return strings.Repeat(text+"; ", n) + rest }

// letters are n names, none twice.
func letters(n int) []string {
	var l []string
	for i := range n {
		l = append(l, string(rune('a'+i)))
	}
	return l
}

// show is p as a failure tells it.
func show(p api.Prog) string {
	var lines []string
	for _, i := range p.L {
		lines = append(lines, strings.TrimSpace(fmt.Sprint(inst.Name(i.Op), " ", i.A)))
	}
	return fmt.Sprintf("%s %q", strings.Join(lines, "; "), p.Names)
}

// runs fails the test where p may not run, or its heights are not as many as its instructions.
func runs(t *testing.T, p api.Prog) {
	t.Helper()
	if n, e := Run(p); n != 0 || e != api.OK {
		t.Errorf("Run(%s) = %d, %d", show(p), n, int(e))
	}
	if l := Heights(p); len(l) != len(p.L) {
		t.Errorf("Heights(%s) = %v", show(p), l)
	}
}

// refused fails the test where Run of p answers anything but that instruction and that error, or p has heights.
func refused(t *testing.T, p api.Prog, at int, why api.Errno) {
	t.Helper()
	if n, e := Run(p); n != at || e != why {
		t.Errorf("Run(%s) = %d, %d; want %d, %d", show(p), n, int(e), at, int(why))
	}
	if l := Heights(p); len(l) != 0 {
		t.Errorf("Heights(%s) = %v, though it may not run", show(p), l)
	}
}

// high fails the test where p may not run, or its heights are others.
func high(t *testing.T, p api.Prog, want ...int) {
	t.Helper()
	runs(t, p)
	if l := Heights(p); !slices.Equal(l, want) {
		t.Errorf("Heights(%s) = %v; want %v", show(p), l, want)
	}
}

// A spot is where a run may be: ahead of an instruction, with a height of the stack.
type spot struct{ at, height int }

// walk goes each way of a program that is well shaped, one run's step at a time, and answers at which spots it was.
func walk(p api.Prog) map[spot]bool {
	seen := map[spot]bool{}
	open := []spot{{0, 0}}
	for len(open) > 0 {
		s := open[0]
		open = open[1:]
		if seen[s] {
			continue
		}
		seen[s] = true
		i := p.L[s.at]
		after := s.height - inst.Takes(i.Op) + inst.Gives(i.Op)
		if s.height < inst.Takes(i.Op) || after > api.MaxStack {
			continue
		}
		switch i.Op {
		case api.IExit:
		case api.IJump:
			open = append(open, spot{i.A, after})
		case api.IZero:
			open = append(open, spot{i.A, after}, spot{s.at + 1, after})
		default:
			open = append(open, spot{s.at + 1, after})
		}
	}
	return seen
}

// walked answers the heights of a program that is well shaped, and the least instruction that spoils them, or -1.
func walked(p api.Prog) ([]int, int) {
	l := slices.Repeat([]int{-1}, len(p.L))
	seen := walk(p)
	for n := range p.L {
		for h := range api.MaxStack + 1 {
			if !seen[spot{n, h}] {
				continue
			}
			takes, gives := inst.Takes(p.L[n].Op), inst.Gives(p.L[n].Op)
			if l[n] >= 0 || h < takes || h-takes+gives > api.MaxStack {
				return nil, n
			}
			l[n] = h
		}
	}
	return l, -1
}
