package check

import (
	"math"
	"slices"
	"strings"
	"testing"

	"crossroads/api"
	"crossroads/inst"
)

// P11.1, all but the stack.

func TestTheExample(t *testing.T) {
	high(t, code("push; exit"), 0, 1)
	runs(t, code("push 7; exit"))
}

// TestFull: no instruction, and one more than there may be, of them or of names.
func TestFull(t *testing.T) {
	refused(t, api.Prog{}, 0, api.ErrFull)
	refused(t, api.Prog{L: []api.Inst{}}, 0, api.ErrFull)
	refused(t, with(api.Prog{}, "a"), 0, api.ErrFull)
	for n := range 300 {
		p := code(repeat(n, "jump", "jump"))
		if n+1 <= 96 {
			runs(t, p)
		} else {
			refused(t, p, 0, api.ErrFull)
		}
	}
	runs(t, code(repeat(47, "push; out", "push; exit")))
	refused(t, code(repeat(47, "push; out", "push; push; exit")), 0, api.ErrFull)
	refused(t, api.Prog{L: make([]api.Inst, 1<<20)}, 0, api.ErrFull)
}

// TestFullOfNames: one more than there may be.
func TestFullOfNames(t *testing.T) {
	for n := range 20 {
		small, great := with(code("push; exit"), letters(n)...), with(code(repeat(95, "jump", "jump")), letters(n)...)
		if n <= 8 {
			runs(t, small)
			runs(t, great)
		} else {
			refused(t, small, 0, api.ErrFull)
			refused(t, great, 0, api.ErrFull)
		}
	}
	refused(t, with(code("push; exit"), make([]string, 1<<20)...), 0, api.ErrFull)
}

// TestNames: of one part, and of two.
func TestNames(t *testing.T) {
	for _, s := range []string{
		"a", "z", "0", "9", "_", "az09._", "...", ".a", "a.", "..a", "a..", "._", "_.", "a.b", "a..b",
		"a/b", "a/.b", "a/b.", ".../...", "a/...", ".../a", "_/_", "0/9", "..a/..b", "._/_.",
		"abcdefgh", "abc/efgh", "a/cdefgh", "abcdef/h", "........", "a.b_c.d9",
	} {
		runs(t, with(code("push; exit"), s))
		for n := range api.MaxNames { // wherever it stands
			runs(t, with(code("push; exit"), slices.Insert(letters(7), n, s)...))
		}
	}
}

// TestNoNames: each way in which a text is no name.
func TestNoNames(t *testing.T) {
	for _, s := range []string{
		"",                                                                                                                                                                          // too short
		"abcdefghi", "abcd/fghi", "a/cdefghi", "abcdefg/i", ".........", strings.Repeat("a", 255), strings.Repeat("a", 256), strings.Repeat("a", 257), strings.Repeat("a", 1<<16+1), // too long
		"/", "/a", "a/", "//", "a//b", // an empty part
		"a/b/c", "/a/b", "a/b/", // more than one stroke
		".", "..", "./a", "../a", "a/.", "a/..", "./.", "../..", "./..", // these parts
		"A", "Z", "aB", "a b", " ", " a", "a ", "a\x00", "\x00", "a\n", "-", "a-b", "a+b", "a\\b", "a,b", "a:b", "`", "{", "@", "[", "^", // other bytes
		"é", "aé", "ａ", "\xff", "a\x80", "\xe1", "a/\xc3", "A/b", "a/B",
	} {
		refused(t, with(code("push; exit"), s), 0, api.ErrName)
		for n := range api.MaxNames { // wherever it stands, and whoever speaks of it
			l := slices.Insert(letters(7), n, s)
			refused(t, with(code("push; exit"), l...), 0, api.ErrName)
			refused(t, with(code("push; open 3; pop; exit"), l...), 0, api.ErrName)
		}
	}
}

// TestEachByte: alone, and in each place of a part.
func TestEachByte(t *testing.T) {
	for c := range 256 {
		b := string([]byte{byte(c)})
		good := strings.Contains("abcdefghijklmnopqrstuvwxyz0123456789._", b)
		for _, s := range []string{b + "a", "a" + b, "a" + b + "a", b + "a/a", "a" + b + "/a", "a/" + b + "a", "a/a" + b, "abcdefg" + b, b + "bcdefgh", "a/cd" + b + "fg"} {
			p := with(code("push; exit"), s)
			if good || s == "a/a" {
				runs(t, p)
			} else {
				refused(t, p, 0, api.ErrName)
			}
		}
		if good && b != "." {
			runs(t, with(code("push; exit"), b))
		} else {
			refused(t, with(code("push; exit"), b), 0, api.ErrName)
		}
	}
}

// TestEachTextOfFew: all short texts of a letter, a point, a stroke and a byte that may not be, held against the rule word by word.
func TestEachTextOfFew(t *testing.T) {
	var each func(s string, left int)
	each = func(s string, left int) {
		good := s != "" && !strings.Contains(s, "A") && strings.Count(s, "/") <= 1
		for _, part := range strings.Split(s, "/") {
			good = good && part != "" && part != "." && part != ".."
		}
		if p := with(code("push; exit"), s); good {
			runs(t, p)
		} else {
			refused(t, p, 0, api.ErrName)
		}
		for _, c := range "a./A"[:min(4, 4*left)] {
			each(s+string(c), left-1)
		}
	}
	each("", 5)
}

// TestNamesAreNotHeldAgainstOneAnother: one may stand twice, and need not be spoken of.
func TestNamesAreNotHeldAgainstOneAnother(t *testing.T) {
	runs(t, with(code("open 1; exit"), "a", "a", "a/b", "a/b"))
}

// TestOp: whatever inst.May refuses is refused, wherever it stands.
func TestOp(t *testing.T) {
	for op := -300; op <= 1<<10; op++ {
		for _, a := range []int{-1, 0, 1, 7, 8, 63, 64, 95, 96, 65535, 65536, math.MinInt, math.MaxInt} {
			i := api.Inst{Op: op, A: a}
			if inst.May(i) {
				continue
			}
			refused(t, api.Prog{L: []api.Inst{i}}, 0, api.ErrOp)
			p := with(code("push; pop; jump 3; push; exit"), letters(8)...)
			for n := range p.L {
				q := with(p, p.Names...)
				q.L = slices.Clone(p.L)
				q.L[n] = i
				refused(t, q, n, api.ErrOp)
			}
		}
	}
	for _, op := range []int{math.MinInt, math.MaxInt, api.IExit + 1<<32, api.IExit + math.MinInt} {
		refused(t, api.Prog{L: []api.Inst{{Op: op}}}, 0, api.ErrOp)
	}
}

// TestNameThatIsNotThere: for each number of names, each instruction that speaks of one and each that it may speak of.
func TestNameThatIsNotThere(t *testing.T) {
	for n := range api.MaxNames + 1 {
		for _, name := range strings.Fields("open unlink mkdir rmdir list") {
			for a := range api.MaxNames {
				p := with(code("push; pop; "+name+"; exit"), letters(n)...)
				p.L[2].A = a
				if a < n {
					runs(t, p)
				} else {
					refused(t, p, 2, api.ErrName)
				}
			}
		}
	}
}

// TestRenameOfWhatIsNotThere: both of its names must be there.
func TestRenameOfWhatIsNotThere(t *testing.T) {
	for n := range api.MaxNames + 1 {
		for elder := range api.MaxNames {
			for to := range api.MaxNames {
				p := with(code("push; pop; rename; exit"), letters(n)...)
				p.L[2].A = 8*elder + to
				if elder < n && to < n {
					runs(t, p)
				} else {
					refused(t, p, 2, api.ErrName)
				}
			}
		}
	}
}

// TestNoNameIsSpokenOf: by all others, whatever their A.
func TestNoNameIsSpokenOf(t *testing.T) {
	speak := strings.Fields("open unlink mkdir rmdir list rename")
	for op := first; op <= last; op++ {
		for _, a := range []int{0, 1, 5, 7, 65535} {
			i := api.Inst{Op: op, A: a}
			if !inst.May(i) || inst.Jumps(op) && a != 5 || slices.Contains(speak, inst.Name(op)) {
				continue
			}
			p := code("push; push; push; jump 5; jump 5; jump 5")
			p.L[3] = i
			if n, e := Run(p); n != 0 || e != api.OK {
				t.Errorf("Run(%s) = %d, %d", show(p), n, int(e))
			}
		}
	}
}

// TestJump: for each number of instructions, to each that there may be.
func TestJump(t *testing.T) {
	for n := 1; n <= api.MaxCode; n++ {
		for a := range api.MaxCode {
			p := code(repeat(n, "jump", "jump"))
			p.L = p.L[:n]
			p.L[n/2].A = a
			if a < n {
				runs(t, p)
			} else {
				refused(t, p, n/2, api.ErrJump)
			}
			p = code("push; zero; exit; " + repeat(n, "jump", "jump"))
			p.L = p.L[:min(n+3, 96)]
			p.L[1].A = a
			if a >= len(p.L) {
				refused(t, p, 1, api.ErrJump)
			} else if _, e := Run(p); e == api.ErrJump {
				t.Errorf("Run(%s): ErrJump", show(p))
			}
		}
	}
}

// TestEnd: what stands last must end, and what stands elsewhere need not.
func TestEnd(t *testing.T) {
	for op := first; op <= last; op++ {
		p := with(code("push; push; push; jump 4; exit; exit"), "a")
		if p.L[5].Op = op; op == api.IExit || op == api.IJump {
			runs(t, p)
		} else {
			refused(t, p, 5, api.ErrEnd)
		}
		if p = (api.Prog{L: []api.Inst{{Op: op}}, Names: []string{"a"}}); op == api.IJump {
			runs(t, p)
		} else if op == api.IExit {
			refused(t, p, 0, api.ErrStack)
		} else {
			refused(t, p, 0, api.ErrEnd)
		}
	}
	refused(t, code("push; exit; jump; pop"), 3, api.ErrEnd)
	refused(t, code("push; zero"), 1, api.ErrEnd)
	refused(t, code("push; zero 1"), 1, api.ErrEnd)
	runs(t, code("push; zero 2; jump 3; push; exit"))
	runs(t, code("jump 2; exit; jump 2"))
	runs(t, code("push; exit; push; exit; exit"))
}

// TestTheFirstIsTold: the first instruction at which there is something, whatever it is.
func TestTheFirstIsTold(t *testing.T) {
	faults := []struct {
		i api.Inst
		e api.Errno
	}{{api.Inst{Op: 0}, api.ErrOp}, {api.Inst{Op: api.IPop, A: 1}, api.ErrOp}, {api.Inst{Op: api.IOpen, A: 1}, api.ErrName}, {api.Inst{Op: api.IRename, A: 8}, api.ErrName}, {api.Inst{Op: api.IJump, A: 8}, api.ErrJump}, {api.Inst{Op: api.IZero, A: 95}, api.ErrJump}}
	for _, x := range faults {
		for _, y := range faults {
			for at := range 6 {
				for other := at + 1; other < 7; other++ {
					p := with(code("push; pop; list; pop; push; zero 6; pop"), "a") // the last does not end, and takes what is not there
					p.L[at], p.L[other] = x.i, y.i
					refused(t, p, at, x.e)
				}
			}
		}
	}
}

// TestWhichIsTold: at one instruction the one that the chapter names first.
func TestWhichIsTold(t *testing.T) {
	bad := api.Prog{L: make([]api.Inst, 97), Names: make([]string, 9)}
	refused(t, bad, 0, api.ErrFull)
	refused(t, with(api.Prog{}, "A"), 0, api.ErrFull)
	refused(t, with(bad, "A"), 0, api.ErrFull)
	refused(t, with(code("push; exit"), append(letters(8), "A")...), 0, api.ErrFull)
	refused(t, with(api.Prog{L: bad.L[:1]}, "a", "A"), 0, api.ErrName)      // ahead of ErrOp at 0
	refused(t, with(code("pop"), "A"), 0, api.ErrName)                      // ahead of ErrEnd, ErrStack at 0
	refused(t, with(code("jump 9"), "A"), 0, api.ErrName)                   // ahead of ErrJump at 0
	refused(t, api.Prog{L: []api.Inst{{Op: api.IPop, A: 1}}}, 0, api.ErrOp) // ahead of ErrEnd
	refused(t, api.Prog{L: []api.Inst{{Op: api.IOpen, A: 8}}}, 0, api.ErrOp)
	refused(t, api.Prog{L: []api.Inst{{Op: api.IOpen, A: -1}}}, 0, api.ErrOp)
	refused(t, api.Prog{L: []api.Inst{{Op: api.IRename, A: 64}}}, 0, api.ErrOp)
	refused(t, api.Prog{L: []api.Inst{{Op: api.IJump, A: 96}}}, 0, api.ErrOp) // ahead of ErrJump
	refused(t, api.Prog{L: []api.Inst{{Op: api.IZero, A: -1}}}, 0, api.ErrOp)
	refused(t, code("open"), 0, api.ErrName)   // ahead of ErrEnd
	refused(t, code("zero 1"), 0, api.ErrJump) // ahead of ErrEnd
	refused(t, code("pop"), 0, api.ErrEnd)     // ahead of ErrStack
	refused(t, code("pop; pop; pop; jump 4"), 3, api.ErrJump)
	refused(t, code("pop; pop; pop; open; exit"), 3, api.ErrName)
	refused(t, code("pop; pop; pop; zero"), 3, api.ErrEnd)
	refused(t, code("jump 2; jump 9; pop; exit"), 1, api.ErrJump) // what can't be reached is held to this all the same
	refused(t, code("jump 2; mkdir; pop; exit"), 1, api.ErrName)
	refused(t, code("jump; pop"), 1, api.ErrEnd)
	p := code("jump; pop; jump")
	p.L[1].A = 1
	refused(t, p, 1, api.ErrOp)
}
