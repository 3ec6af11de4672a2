package run_test

import (
	"fmt"
	"math"
	"slices"
	"strings"
	"testing"

	"crossroads/api"
)

// P16.2: each instruction that is no call.

// borders are numbers about those where something changes.
var borders = []uint16{0, 1, 2, 3, 7, 8, 15, 16, 17, 31, 32, 33, 100, 127, 128, 129, 254, 255, 256, 257, 32767, 32768, 32769, 65280, 65534, 65535}

// leaves fails the test where text does not leave want on the stack, above what was there.
func leaves(t *testing.T, text string, want uint16) {
	t.Helper()
	world{}.answers(t, "", text, want)
}

func TestPush(t *testing.T) {
	for _, a := range borders {
		leaves(t, fmt.Sprint("push ", a), a)
	}
	for a := range 1 << 16 {
		if x, n, _ := (world{}).of(code(fmt.Sprintf("push %d; tell; bye", a)), 99).answer(t); told(x, n) != halves(uint16(a))+" Exited 0, 8 done" {
			t.Fatalf("push %d: %s", a, told(x, n))
		}
	}
}

func TestPop(t *testing.T) {
	leaves(t, "push 7; push 8; pop", 7)
	leaves(t, "push 7; push 8; push 9; pop; pop", 7)
	plays(t, "push 1; push 2; pop; exit", "Exited 1, 4 done")
}

func TestDup(t *testing.T) {
	for _, a := range borders {
		leaves(t, fmt.Sprintf("push %d; dup; pop", a), a)
		leaves(t, fmt.Sprintf("push %d; dup; swap; pop", a), a)
	}
	plays(t, "push 5; push 6; dup; out; out; out; bye", "!6 !6 !5 Exited 0, 8 done")
}

func TestSwap(t *testing.T) {
	for _, a := range borders {
		leaves(t, fmt.Sprintf("push 7; push %d; swap; pop", a), a)
		leaves(t, fmt.Sprintf("push %d; push 7; swap; swap; swap; swap; swap; swap; pop", a), a)
		leaves(t, fmt.Sprintf("push %d; push 7; push 8; swap; pop; swap; pop", a), 8)
	}
	plays(t, "push 4; push 5; push 6; swap; out; out; out; bye", "!5 !6 !4 Exited 0, 9 done")
}

// reckoned is what an instruction makes of the number ahead of the top and the top, both as whole numbers.
func reckoned(op string, a, b int) int {
	truth := map[bool]int{true: 1}
	switch op {
	case "add":
		return (a + b) % 65536
	case "sub":
		return (a - b + 65536) % 65536
	case "mul":
		return a * b % 65536
	case "div":
		return a / b
	case "mod":
		return a - a/b*b
	case "and":
		return a & b
	case "or":
		return a | b
	case "xor":
		return a ^ b
	case "shl":
		return int(math.Mod(float64(a)*math.Pow(2, float64(min(b, 16))), 65536))
	case "shr":
		return int(float64(a) / math.Pow(2, float64(min(b, 16))))
	case "eq":
		return truth[a == b]
	case "lt":
		return truth[a < b]
	}
	panic(op)
}

// TestReckoning: all twelve, of all pairs of borders; the number ahead of the top is the one from which sub takes, which div divides, and so on.
func TestReckoning(t *testing.T) {
	for _, op := range strings.Fields("add sub mul div mod and or xor shl shr eq lt") {
		for _, a := range borders {
			for _, b := range borders {
				text := fmt.Sprintf("push %d; push %d; %s", a, b, op)
				if b == 0 && (op == "div" || op == "mod") {
					plays(t, text+"; push 1; exit", "Divided, 3 done")
				} else {
					leaves(t, text, uint16(reckoned(op, int(a), int(b))))
				}
			}
		}
	}
}

// TestDivided: what was shown ahead stays, and nothing is done behind.
func TestDivided(t *testing.T) {
	for _, op := range []string{"div", "mod"} {
		plays(t, "push 65; out; open a; push 0; "+op+"; push 66; out; push 9; exit", "!65 0 Divided, 5 done")
		plays(t, "push 3; push 0; swap; "+op+"; exit", "Exited 0, 5 done")
	}
}

func TestNot(t *testing.T) {
	for _, a := range borders {
		want := uint16(0)
		if a == 0 {
			want = 1
		}
		leaves(t, fmt.Sprintf("push %d; not", a), want)
		leaves(t, fmt.Sprintf("push %d; not; not", a), 1-want)
	}
}

// TestLocals: each on its own, with numbers of 16 bits.
func TestLocals(t *testing.T) {
	for k := range 8 {
		for _, a := range borders {
			leaves(t, fmt.Sprintf("push %d; set %d; push 7; pop; get %d", a, k, k), a)
		}
		leaves(t, fmt.Sprintf("push 1; set %d; push 2; set %d; get %d", k, k, k), 2)
		leaves(t, fmt.Sprintf("push 1; set %d; get %d; pop; get %d", k, k, k), 1)
	}
	var text, want string
	for k := range 8 {
		text += fmt.Sprintf("push %d; set %d; ", 300+k, k)
	}
	for k := range 8 {
		text += fmt.Sprintf("get %d; tell; ", k)
		want += fmt.Sprintf("!1 !%d ", 44+k)
	}
	plays(t, text+"bye", want+"Exited 0, 66 done")
}

// TestStore: the top's lowest 8 bits, to the address ahead of it, and to no other.
func TestStore(t *testing.T) {
	for at := range 32 {
		for _, a := range borders {
			text := fmt.Sprintf("push %d; push %d; store", at, a)
			world{}.holds(t, text, at, byte(a))
			leaves(t, text+fmt.Sprintf("; push %d; load", at), a%256)
		}
	}
	world{}.holds(t, "push 4; push 513; store; push 3; push 258; store; push 4; push 7; store", 3, 2, 7)
}

// TestLoad: the byte at the top, and it stays there.
func TestLoad(t *testing.T) {
	for at := range 32 {
		leaves(t, fmt.Sprintf("push %d; push 200; store; push %d; load; pop; push %d; load", at, at, at), 200)
		leaves(t, fmt.Sprintf("push %d; push 200; store; push %d; load", at, (at+1)%32), 0)
	}
}

// TestOutside: an address of Memory - 1 is in it, and one of Memory and more is not.
func TestOutside(t *testing.T) {
	for _, at := range borders {
		load, store := fmt.Sprintf("push 65; out; push %d; load; push 66; out; exit", at), fmt.Sprintf("push 65; out; push %d; push 300; store; push 66; out; bye", at)
		if at < 32 {
			plays(t, load, "!65 !66 Exited 0, 7 done")
			plays(t, store, "!65 !66 Exited 0, 9 done")
		} else {
			plays(t, load, "!65 Outside, 4 done")
			plays(t, store, "!65 Outside, 5 done")
		}
	}
}

func TestJump(t *testing.T) {
	plays(t, "jump @x; y: push 3; exit; x: push 4; pop; jump @y", "Exited 3, 6 done")
	plays(t, "jump @x; x: push 4; exit", "Exited 4, 3 done")
	plays(t, "push 0; jump @x; y: out; push 1; exit; x: push 9; swap; jump @y", "!0 Exited 1, 8 done")
	plays(t, "push 7; jump @x; push 5; exit; x: exit", "Exited 7, 3 done")
	for n := 3; n < 96; n++ { // to each instruction that can be one's place
		text := "jump " + fmt.Sprint(n) + "; " + strings.Repeat("push 1; pop; ", (n-1)/2)
		if n%2 == 0 {
			text += "jump 0; "
		}
		if n < 95 {
			plays(t, text+"push 6; exit", "Exited 6, 3 done")
		} else {
			plays(t, text+"jump 95", "Spent, 400 done")
		}
	}
}

// TestZero: to A where the top is 0, all 16 bits of it; else to the next. The number is taken both ways.
func TestZero(t *testing.T) {
	for _, a := range borders {
		text := fmt.Sprintf("push 44; push %d; zero @x; push 1; out; exit; x: push 2; out; exit", a)
		if a == 0 {
			plays(t, text, "!2 Exited 44, 6 done")
		} else {
			plays(t, text, "!1 Exited 44, 6 done")
		}
	}
	plays(t, "push 3; set 0; x: push 67; out; get 0; push 1; sub; dup; set 0; not; zero @x; push 8; exit", "!67 !67 !67 Exited 8, 31 done")
	plays(t, "push 0; zero @x; x: push 5; exit", "Exited 5, 4 done")
}

// TestOut: an Event, Out, of the top's lowest 8 bits; the number is taken.
func TestOut(t *testing.T) {
	for _, a := range borders {
		plays(t, fmt.Sprintf("push 17; push %d; out; exit", a), fmt.Sprintf("!%d Exited 17, 4 done", a%256))
	}
	x, _, _ := world{}.of(code("push 511; out; bye"), 9).answer(t)
	if !slices.Equal(x.L, []api.Event{{Out: true, Val: 255}}) {
		t.Errorf("%+v", x.L)
	}
	plays(t, "push 3; push 2; push 1; out; out; out; bye", "!1 !2 !3 Exited 0, 8 done")
}

// TestAssert: Failed where the top is 0, all 16 bits of it; else it is taken, and nothing more.
func TestAssert(t *testing.T) {
	for _, a := range borders {
		text := fmt.Sprintf("push 65; out; push 19; push %d; assert; push 66; out; exit", a)
		if a == 0 {
			plays(t, text, "!65 Failed, 5 done")
		} else {
			plays(t, text, "!65 !66 Exited 19, 8 done")
		}
	}
}

// TestExit: the code is the top's lowest 8 bits, and nothing is done behind.
func TestExit(t *testing.T) {
	for _, a := range borders {
		plays(t, fmt.Sprintf("push 65; out; push 3; push %d; exit; out; bye", a), fmt.Sprintf("!65 Exited %d, 5 done", a%256))
	}
}

// TestEndsAlone: but of Exited there is no code, whatever is on the stack.
func TestEndsAlone(t *testing.T) {
	for text, want := range map[string]api.Trace{
		"push 7; exit":                                 {End: api.Exited, Code: 7},
		"push 7; push 7; push 0; div; exit":            {End: api.Divided},
		"push 7; push 0; mod; exit":                    {End: api.Divided},
		"push 7; push 33; load; exit":                  {End: api.Outside},
		"push 7; push 33; push 5; store; exit":         {End: api.Outside},
		"push 7; push 0; assert; exit":                 {End: api.Failed},
		"push 7; x: push 9; pop; jump @x":              {End: api.Spent},
		"push 7; push 9; push 7; push 77; write; exit": {End: api.Outside},
	} {
		x, _, e := world{}.of(code(text), 40).answer(t)
		if e != api.OK || len(x.L) != 0 || x.End != want.End || x.Code != want.Code {
			t.Errorf("%s: %+v, %d", text, x, int(e))
		}
	}
}
