package run_test

import (
	"fmt"
	"slices"
	"strconv"
	"strings"

	"crossroads/api"
	"crossroads/inst"
)

// words are the numbers that a call answers instead of one that it was asked for.
var words = map[string]uint16{
	"NoEntry": api.NoEntry, "IoError": api.IoError, "BadFd": api.BadFd, "Exists": api.Exists, "NotDir": api.NotDir, "IsDir": api.IsDir,
	"Invalid": api.Invalid, "ManyFds": api.ManyFds, "NoSpace": api.NoSpace, "NotEmpty": api.NotEmpty, "Nothing": api.Nothing,
}

// ends are the ways in which a run ends, by their numbers.
var ends = []string{"goes on", "Exited", "Divided", "Outside", "Failed", "Spent"}

// macros are instructions that come often: tell puts out both bytes of the top, the higher first.
var macros = map[string]string{
	"tell": "dup; push 8; shr; out; out",
	"bye":  "push 0; exit",
}

// code is the program of that text: instructions with semicolons between them, each its name and what it speaks of: a number, a word of words, names, or @x, which is where x: stands.
func code(text string) api.Prog {
	var lines []string
	for line := range strings.SplitSeq(text, ";") {
		if m, is := macros[strings.TrimSpace(line)]; is {
			line = m
		}
		lines = append(lines, strings.Split(line, ";")...)
	}
	at := map[string]int{}
	for n, line := range lines {
		if label, rest, is := strings.Cut(line, ":"); is {
			at[strings.TrimSpace(label)] = n
			lines[n] = rest
		}
	}
	var p api.Prog
	for _, line := range lines {
		p = with(p, strings.Fields(line), at)
	}
	return p
}

// with is p with one more instruction.
func with(p api.Prog, w []string, at map[string]int) api.Prog {
	i := api.Inst{Op: number(w[0])}
	for _, s := range w[1:] {
		i.A *= api.MaxNames
		switch {
		case s[0] == '@':
			i.A += at[s[1:]]
		case words[s] > 0:
			i.A += int(words[s])
		case s[0] >= '0' && s[0] <= '9':
			n, err := strconv.ParseInt(s, 0, 0)
			if err != nil {
				panic(err)
			}
			i.A += int(n)
		default:
			if !slices.Contains(p.Names, s) {
				p.Names = append(p.Names, s)
			}
			i.A += slices.Index(p.Names, s)
		}
	}
	p.L = append(p.L, i)
	return p
}

// number is that of an instruction of that name.
func number(name string) int {
	for op := api.IPush; op <= api.IArg; op++ {
		if inst.Name(op) == name {
			return op
		}
	}
	panic("no instruction: " + name)
}

// show is p as a failure tells it.
func show(p api.Prog) string {
	var lines []string
	for _, i := range p.L {
		lines = append(lines, fmt.Sprint(inst.Name(i.Op), " ", i.A))
	}
	return fmt.Sprintf("%s %q", strings.Join(lines, "; "), p.Names)
}

// event is one as a text: !65 is a byte that was put out, what else there is a call's answer.
func event(e api.Event) string {
	if e.Out {
		return fmt.Sprint("!", e.Val)
	}
	for word, n := range words {
		if e.Val == n {
			return word
		}
	}
	return strconv.Itoa(int(e.Val))
}

// events are those of a trace, with blanks between them.
func events(x api.Trace) string {
	var l []string
	for _, e := range x.L {
		l = append(l, event(e))
	}
	return strings.Join(l, " ")
}

// end is how a trace ends, with the code if it is not 0 or that end has one.
func end(x api.Trace) string {
	how := fmt.Sprint("end ", x.End)
	if x.End >= 0 && x.End < len(ends) {
		how = ends[x.End]
	}
	if x.End == api.Exited || x.Code != 0 {
		how += fmt.Sprint(" ", x.Code)
	}
	return how
}

// told is a run as a text: its events, its end, and how many instructions were done.
func told(x api.Trace, steps int) string {
	return strings.TrimSpace(fmt.Sprintf("%s %s, %d done", events(x), end(x), steps))
}

// halves are both bytes of a number as tell puts them out.
func halves(n uint16) string { return fmt.Sprintf("!%d !%d", n>>8, n&255) }
