package run_test

import (
	"fmt"
	"math/rand"
	"slices"
	"strings"
	"testing"

	"crossroads/api"
	"crossroads/check"
	"crossroads/files"
	"crossroads/inst"
)

// model is the chapter word by word, over whole numbers and instructions' names: what runs are held against.
type model struct {
	p      api.Prog
	in     api.Input
	files  *files.Files
	stack  []int
	locals [8]int
	memory [32]byte
	next   int
	asked  int
	trace  api.Trace
	done   map[string]int // how often each instruction was done
}

// play is what a model shows, and how many instructions it did.
func (m *model) play(fuel int) (api.Trace, int) {
	for n := 0; ; n++ {
		switch {
		case m.trace.End != 0:
			return m.trace, n
		case n == fuel:
			return api.Trace{L: m.trace.L, End: api.Spent}, n
		}
		i := m.p.L[m.next]
		m.next++
		name := inst.Name(i.Op)
		m.done[name]++
		m.one(name, i.A)
	}
}

// pop is the top, which is taken.
func (m *model) pop() int {
	n := m.stack[len(m.stack)-1]
	m.stack = m.stack[:len(m.stack)-1]
	return n
}

func (m *model) push(n int) { m.stack = append(m.stack, n) }

// one does an instruction that is no call, and leaves calls to call.
func (m *model) one(name string, a int) {
	switch name {
	case "push":
		m.push(a)
	case "pop":
		m.pop()
	case "dup":
		m.push(m.stack[len(m.stack)-1])
	case "swap":
		top, under := m.pop(), m.pop()
		m.push(top)
		m.push(under)
	case "add", "sub", "mul", "div", "mod", "and", "or", "xor", "shl", "shr", "eq", "lt":
		top, under := m.pop(), m.pop()
		if top == 0 && (name == "div" || name == "mod") {
			m.trace.End = api.Divided
			return
		}
		m.push(reckoned(name, under, top))
	case "not":
		m.push(reckoned("eq", m.pop(), 0))
	case "get":
		m.push(m.locals[a])
	case "set":
		m.locals[a] = m.pop()
	case "load":
		if at := m.pop(); at > 31 {
			m.trace.End = api.Outside
		} else {
			m.push(int(m.memory[at]))
		}
	case "store":
		n, at := m.pop(), m.pop()
		if at > 31 {
			m.trace.End = api.Outside
		} else {
			m.memory[at] = byte(n % 256)
		}
	case "jump":
		m.next = a
	case "zero":
		if m.pop() == 0 {
			m.next = a
		}
	case "out":
		m.trace.L = append(m.trace.L, api.Event{Out: true, Val: uint16(m.pop() % 256)})
	case "assert":
		if m.pop() == 0 {
			m.trace.End = api.Failed
		}
	case "exit":
		m.trace.End, m.trace.Code = api.Exited, uint16(m.pop()%256)
	case "argc":
		m.push(len(m.in.Args))
	case "arg":
		at, k := m.pop(), m.pop()
		if k < len(m.in.Args) && at < len(m.in.Args[k]) {
			m.push(int(m.in.Args[k][at]))
		} else {
			m.push(0xffff)
		}
	default:
		m.call(name, a)
	}
}

// call does one of those whose answer is an Event.
func (m *model) call(name string, a int) {
	var l []uint16 // what it takes, the top behind
	for range map[string]int{"close": 1, "size": 1, "twin": 1, "seek": 2, "trunc": 2, "read": 3, "write": 3}[name] {
		l = append([]uint16{uint16(m.pop())}, l...)
	}
	answer, ends := uint16(api.IoError), false
	if !m.fails(name) {
		answer, ends = m.ask(name, a, l)
	}
	if ends {
		m.trace.End = api.Outside
		return
	}
	m.push(int(answer))
	m.trace.L = append(m.trace.L, api.Event{Val: answer})
}

// fails is whether a call fails: those that may have an entry each, as long as there are some.
func (m *model) fails(name string) bool {
	if !strings.Contains(" open read write unlink rename mkdir rmdir trunc ", " "+name+" ") {
		return false
	}
	m.asked++
	return m.asked <= len(m.in.Fails) && m.in.Fails[m.asked-1]
}

// ask is what the file system answers, or whether the run ends Outside.
func (m *model) ask(name string, a int, l []uint16) (uint16, bool) {
	switch name {
	case "open":
		return m.files.Open(m.p.Names[a]), false
	case "unlink":
		return m.files.Unlink(m.p.Names[a]), false
	case "mkdir":
		return m.files.Mkdir(m.p.Names[a]), false
	case "rmdir":
		return m.files.Rmdir(m.p.Names[a]), false
	case "list":
		return m.files.List(m.p.Names[a]), false
	case "rename":
		return m.files.Rename(m.p.Names[a/8], m.p.Names[a%8]), false
	case "close":
		return m.files.Close(l[0]), false
	case "size":
		return m.files.Size(l[0]), false
	case "twin":
		return m.files.Twin(l[0]), false
	case "seek":
		return m.files.Seek(l[0], l[1]), false
	case "trunc":
		return m.files.Trunc(l[0], l[1]), false
	case "read":
		b, n := m.files.Read(l[0], l[2])
		for k, c := range b {
			if int(l[1])+k > 31 {
				return 0, true
			}
			m.memory[int(l[1])+k] = c
		}
		return n, false
	case "write":
		var b []byte
		for at := int(l[1]); at < int(l[1])+int(l[2]); at++ {
			if at > 31 {
				return 0, true
			}
			b = append(b, m.memory[at])
		}
		return m.files.Write(l[0], b), false
	}
	panic(name)
}

// A writer writes programs by chance.
type writer struct {
	*rand.Rand
	p      api.Prog
	height int
	at     map[int][]int // by heights, where instructions stand ahead of which the stack is so high
}

// put writes an instruction that there is room and reason for; else nothing.
func (w *writer) put(op, a int) {
	after := w.height - inst.Takes(op) + inst.Gives(op)
	if w.height < inst.Takes(op) || after > api.MaxStack || len(w.p.L) > 90 {
		return
	}
	w.at[w.height] = append(w.at[w.height], len(w.p.L))
	w.p.L = append(w.p.L, api.Inst{Op: op, A: a})
	w.height = after
}

// number is one that means something often.
func (w *writer) number() int {
	switch w.Intn(8) {
	case 0:
		return int(borders[w.Intn(len(borders))])
	case 1:
		return w.Intn(40)
	case 2:
		return w.Intn(1 << 16)
	}
	return w.Intn(4)
}

// address is which of the numbers that an instruction takes is an address; -1, if none is.
func address(op int) int {
	switch op {
	case api.ILoad, api.IStore:
		return 0
	case api.IRead, api.IWrite:
		return 1
	}
	return -1
}

// some writes an instruction, often behind numbers for it.
func (w *writer) some() {
	op := w.Intn(api.IArg) + 1
	if op > api.IZero && w.Intn(3) == 0 || w.Intn(8) == 0 {
		op = []int{api.IOpen, api.IRead, api.IWrite, api.ISeek, api.IPush, api.IOut}[w.Intn(6)]
	}
	if w.Intn(5) > 0 {
		for k := range inst.Takes(op) {
			w.put(api.IPush, w.number())
			if k == address(op) && w.Intn(8) > 0 && len(w.p.L) > 0 {
				w.p.L[len(w.p.L)-1].A = w.Intn(33)
			}
		}
	}
	switch op {
	case api.IPush:
		w.put(op, w.number())
	case api.IGet, api.ISet, api.IOpen, api.IUnlink, api.IMkdir, api.IRmdir, api.IList:
		w.put(op, w.Intn(8))
	case api.IRename:
		w.put(op, w.Intn(64))
	case api.IJump: // elsewhere it would leave out what stands behind
		w.put(op, len(w.p.L)+1)
	case api.IZero:
		w.branch()
	case api.IExit, api.IAssert:
		if w.Intn(4) == 0 {
			w.put(api.IAssert, 0)
		}
	default:
		w.put(op, 0)
	}
}

// branch writes a zero back to where the stack is as high, or ahead over some instructions that leave it as it is.
func (w *writer) branch() {
	if w.height == 0 {
		return
	}
	if l := w.at[w.height-1]; len(l) > 0 && w.Intn(3) == 0 {
		w.put(api.IZero, l[w.Intn(len(l))])
		return
	}
	zero := len(w.p.L)
	w.put(api.IZero, 0)
	was := w.height
	for range w.Intn(4) {
		w.some()
	}
	for w.height > was && len(w.p.L) < 90 {
		w.put(api.IOut, 0)
	}
	for w.height < was && len(w.p.L) < 90 {
		w.put(api.IPush, w.number())
	}
	if zero < len(w.p.L) && w.p.L[zero].Op == api.IZero {
		w.p.L[zero].A = len(w.p.L)
	}
}

// program is one written by chance, which may run.
func program(r *rand.Rand) api.Prog {
	for {
		w := writer{Rand: r, at: map[int][]int{}}
		for range r.Intn(5) {
			w.put(api.IOpen, r.Intn(8))
		}
		for n := r.Intn(70); len(w.p.L) < n; {
			w.some()
		}
		w.p.L = append(w.p.L, api.Inst{Op: api.IPush, A: w.number()}, api.Inst{Op: api.IExit})
		w.p.Names = strings.Fields("a b d d/b e x d/x a/x")
		if _, e := check.Run(w.p); e == api.OK {
			return w.p
		}
	}
}

// TestAnyPrograms: short ones of any numbers, most of which check refuses.
func TestAnyPrograms(t *testing.T) {
	w := writer{Rand: rand.New(rand.NewSource(61))}
	ran := 0
	for range 60000 {
		var p api.Prog
		for range w.Intn(6) {
			p.L = append(p.L, api.Inst{Op: w.Intn(api.IArg+3) - 1, A: w.number() * w.Intn(2)})
		}
		if w.Intn(2) == 0 {
			p.L = append(p.L, api.Inst{Op: api.IExit})
		}
		p.Names = []string{"a", "d/b", "A"}[:w.Intn(4)]
		_, why := check.Run(p)
		q := world{tree: "a=abc d/ d/b", args: []string{"xy"}, fails: "010"}.of(p, 50)
		if why != api.OK {
			verdict(t, show(p), q, why)
			continue
		}
		ran++
		q.against(t, map[string]int{})
	}
	if ran < 300 {
		t.Errorf("%d of them ran", ran)
	}
}

// against is what run answers, which has to be what the model does. In done it counts each instruction.
func (q asked) against(t *testing.T, done map[string]int) api.Trace {
	t.Helper()
	f, _ := files.New(q.l, q.in.Files)
	m := &model{p: q.p, in: q.in, files: f, done: done}
	want, steps := m.play(q.fuel)
	got, n, e := q.answer(t)
	if e != api.OK || told(got, n) != told(want, steps) {
		t.Fatalf("%s with %v and %d: %s, %d; want %s", show(q.p), q.in, q.fuel, told(got, n), int(e), told(want, steps))
	}
	return got
}

// TestRandomPrograms: each way to end, each instruction and each answer comes often enough.
func TestRandomPrograms(t *testing.T) {
	r := rand.New(rand.NewSource(16))
	done, seen := map[string]int{}, map[string]int{}
	trees := []string{"", "a=abcdef b=12345678 d/ d/b=xy e/", "a=abc b c d/ e/ d/b=z d/c f", "d/ e/ d/b=\xff_\xff"}
	for range 20000 {
		w := world{tree: trees[r.Intn(len(trees))], args: [][]string{nil, {"xyz"}, {"", "ab_d"}}[r.Intn(3)]}
		if r.Intn(2) == 0 {
			w.fails = fmt.Sprintf("%06b", r.Intn(64)&r.Intn(64))
		}
		fuel := api.MaxFuel
		if r.Intn(4) == 0 {
			fuel = r.Intn(60)
		}
		got := w.of(program(r), fuel).against(t, done)
		seen[ends[got.End]]++
		for _, e := range got.L {
			seen[event(e)]++
		}
	}
	for op := api.IPush; op <= api.IArg; op++ {
		if done[inst.Name(op)] < 500 {
			t.Errorf("%s was done %d times", inst.Name(op), done[inst.Name(op)])
		}
	}
	for _, what := range slices.Concat(ends[1:], strings.Fields("NoEntry IoError BadFd Exists NotDir IsDir Invalid ManyFds NoSpace NotEmpty 0 1 2 3 8 !0 !255")) {
		if seen[what] < 100 {
			t.Errorf("%s came %d times", what, seen[what])
		}
	}
}
