package run

import (
	"crossroads/api"
	"crossroads/fails"
	"crossroads/files"
	"crossroads/inst"
	"crossroads/wide"
)

// machine is a run up to a place. Its program may run, so that an instruction has what it takes and there is room for what it gives.
type machine struct {
	prog   api.Prog
	args   [][]byte
	files  *files.Files
	fails  *fails.Fails
	at     int // the instruction that is next
	done   int
	stack  []uint16
	locals [api.MaxLocals]uint16
	memory [api.Memory]byte
	trace  api.Trace // its End is 0 as long as the run goes on
}

// operators are those of wide, by the instructions that reckon.
var operators = [...]int{
	api.IAdd: api.Add, api.ISub: api.Sub, api.IMul: api.Mul, api.IDiv: api.Div, api.IMod: api.Mod,
	api.IAnd: api.And, api.IOr: api.Or, api.IXor: api.Xor, api.IShl: api.Shl, api.IShr: api.Shr,
	api.IEq: api.Eq, api.ILt: api.Lt,
}

// step does the next instruction. A call that fails only takes what it takes.
func (m *machine) step() {
	i := m.prog.L[m.at]
	m.at++
	m.done++
	fail := inst.Falls(i.Op) && m.fails.Next()
	deep, under, top := m.take(inst.Takes(i.Op))
	if fail {
		m.answer(api.IoError)
		return
	}
	m.do(i, deep, under, top)
}

// do does an instruction on the numbers that it takes: of one alone it is the top, of two under is the other.
func (m *machine) do(i api.Inst, deep, under, top uint16) {
	switch i.Op {
	case api.IPush:
		m.push(uint16(i.A))
	case api.IPop: // it only takes
	case api.IDup:
		m.push(top, top)
	case api.ISwap:
		m.push(top, under)
	case api.IAdd, api.ISub, api.IMul, api.IDiv, api.IMod, api.IAnd, api.IOr, api.IXor, api.IShl, api.IShr, api.IEq, api.ILt:
		m.reckon(i.Op, under, top)
	case api.INot:
		m.reckon(api.IEq, top, 0)
	case api.IGet:
		m.push(m.locals[i.A])
	case api.ISet:
		m.locals[i.A] = top
	case api.ILoad:
		m.load(top)
	case api.IStore:
		m.store(under, top)
	case api.IJump, api.IZero:
		m.jump(i, top)
	case api.IOut:
		m.show(api.Event{Out: true, Val: low(top)})
	case api.IAssert:
		m.assert(top)
	case api.IExit:
		m.exit(top)
	case api.IOpen:
		m.answer(m.files.Open(m.prog.Names[i.A]))
	case api.IClose:
		m.answer(m.files.Close(top))
	case api.IRead:
		m.read(deep, under, top)
	case api.IWrite:
		m.write(deep, under, top)
	case api.ISeek:
		m.answer(m.files.Seek(under, top))
	case api.ISize:
		m.answer(m.files.Size(top))
	case api.IUnlink:
		m.answer(m.files.Unlink(m.prog.Names[i.A]))
	case api.IRename:
		m.answer(m.files.Rename(m.prog.Names[i.A/api.MaxNames], m.prog.Names[i.A%api.MaxNames]))
	case api.IMkdir:
		m.answer(m.files.Mkdir(m.prog.Names[i.A]))
	case api.IRmdir:
		m.answer(m.files.Rmdir(m.prog.Names[i.A]))
	case api.IList:
		m.answer(m.files.List(m.prog.Names[i.A]))
	case api.ITrunc:
		m.answer(m.files.Trunc(under, top))
	case api.ITwin:
		m.answer(m.files.Twin(top))
	case api.IArgc:
		m.push(uint16(len(m.args)))
	case api.IArg:
		m.push(m.arg(under, top))
	}
}

// take takes n numbers from the stack, at most three; those beyond n are 0.
func (m *machine) take(n int) (deep, under, top uint16) {
	var l [3]uint16
	for k := range n {
		last := len(m.stack) - 1
		l[k] = m.stack[last]
		m.stack = m.stack[:last]
	}
	return l[2], l[1], l[0]
}

// push puts numbers on the stack, the last of them on top.
func (m *machine) push(l ...uint16) {
	m.stack = append(m.stack, l...)
}

// reckon puts on the stack what op makes of a and b.
func (m *machine) reckon(op int, a, b uint16) {
	if b == 0 && (op == api.IDiv || op == api.IMod) {
		m.end(api.Divided)
		return
	}
	n, _ := wide.Do(operators[op], 16, a, b)
	m.push(n)
}

// jump goes to A: zero only where the top is 0.
func (m *machine) jump(i api.Inst, top uint16) {
	if i.Op == api.IJump || top == 0 {
		m.at = i.A
	}
}

// assert ends the run where the top is 0.
func (m *machine) assert(top uint16) {
	if top == 0 {
		m.end(api.Failed)
	}
}

// exit ends the run with a code.
func (m *machine) exit(top uint16) {
	m.end(api.Exited)
	m.trace.Code = low(top)
}

// end ends the run.
func (m *machine) end(how int) {
	m.trace.End = how
}

// show lets an Event be seen.
func (m *machine) show(e api.Event) {
	m.trace.L = append(m.trace.L, e)
}

// low is n's lowest 8 bits.
func low(n uint16) uint16 {
	return uint16(byte(n))
}
