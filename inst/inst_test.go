package inst

import (
	"testing"

	"crossroads/api"
)

// may fails the test where May does not answer want.
func may(t *testing.T, op, a int, want bool) {
	t.Helper()
	if got := May(api.Inst{Op: op, A: a}); got != want {
		t.Errorf("May of %d with %d = %v", op, a, got)
	}
}

// P9.1

func TestTheExample(t *testing.T) {
	if n := Takes(api.IRead); n != 3 {
		t.Errorf("Takes(IRead) = %d, want 3", n)
	}
}

func TestNumbers(t *testing.T) {
	l := chapter()
	if len(l) != last {
		t.Fatalf("%d rows, want %d", len(l), last)
	}
	for i, r := range l {
		if r.number != i+first || r.op != r.number {
			t.Errorf("%s has the number %d, want %d, in row %d", r.name, r.op, r.number, i+1)
		}
	}
}

func TestNames(t *testing.T) {
	for _, r := range chapter() {
		if s := Name(r.op); s != r.name {
			t.Errorf("Name(%d) = %q, want %q", r.op, s, r.name)
		}
	}
}

// TestNoNameTwice: nor is one empty, as that of what is no instruction is.
func TestNoNameTwice(t *testing.T) {
	has := map[string]int{"": 0}
	for op := first; op <= last; op++ {
		s := Name(op)
		if other, ok := has[s]; ok {
			t.Errorf("Name(%d) = %q, as Name(%d)", op, s, other)
		}
		has[s] = op
	}
}

func TestTakesAndGives(t *testing.T) {
	for _, r := range chapter() {
		if n := Takes(r.op); n != r.takes {
			t.Errorf("Takes(%d), of %s, = %d, want %d", r.op, r.name, n, r.takes)
		}
		if n := Gives(r.op); n != r.gives {
			t.Errorf("Gives(%d), of %s, = %d, want %d", r.op, r.name, n, r.gives)
		}
	}
}

// TestMayAtTheBounds: the least and the greatest A, one below and one above.
func TestMayAtTheBounds(t *testing.T) {
	for _, r := range chapter() {
		may(t, r.op, 0, true)
		may(t, r.op, r.most, true)
		may(t, r.op, -1, false)
		may(t, r.op, r.most+1, false)
	}
}

func TestMayOfEveryA(t *testing.T) {
	for _, r := range chapter() {
		for a := -1 << 17; a <= 1<<17; a++ {
			may(t, r.op, a, 0 <= a && a <= r.most)
		}
	}
}

func TestMayOfFarA(t *testing.T) {
	for _, r := range chapter() {
		for _, a := range wrong(r.most) {
			may(t, r.op, a, false)
		}
	}
}

// TestMayOfRename: A is each that two names make, and no other.
func TestMayOfRename(t *testing.T) {
	made := map[int]bool{}
	greatest := 0
	for elder := range api.MaxNames {
		for to := range api.MaxNames {
			a := api.MaxNames*elder + to
			made[a], greatest = true, max(greatest, a)
			may(t, api.IRename, a, true)
		}
	}
	if greatest != 63 || len(made) != 64 {
		t.Errorf("two names make %d numbers up to %d", len(made), greatest)
	}
	may(t, api.IRename, greatest+1, false)
	for a := -100; a < 1000; a++ {
		may(t, api.IRename, a, made[a])
	}
}

// TestWhatIsNoInstruction: nothing is known of it, whatever its A.
func TestWhatIsNoInstruction(t *testing.T) {
	for _, op := range strangers() {
		for _, a := range append(wrong(0), 0, 1, 7, 63, 95, 65535) {
			may(t, op, a, false)
		}
		if s := Name(op); s != "" {
			t.Errorf("Name(%d) = %q, want none", op, s)
		}
		if n, m := Takes(op), Gives(op); n != -1 || m != -1 {
			t.Errorf("Takes(%d), Gives(%d) = %d, %d; want -1, -1", op, op, n, m)
		}
	}
}

// only fails the test where the call f, of that name, does not say yes of each of these instructions, and of them alone.
func only(t *testing.T, name string, f func(op int) bool, these ...int) {
	t.Helper()
	is := map[int]bool{}
	for _, op := range these {
		is[op] = true
	}
	all := strangers()
	for op := first; op <= last; op++ {
		all = append(all, op)
	}
	for _, op := range all {
		if f(op) != is[op] {
			t.Errorf("%s(%d), of %q, = %v", name, op, Name(op), !is[op])
		}
	}
}

func TestJumps(t *testing.T) {
	only(t, "Jumps", Jumps, api.IJump, api.IZero)
}

func TestEnds(t *testing.T) {
	only(t, "Ends", Ends, api.IJump, api.IExit)
}

func TestFalls(t *testing.T) {
	only(t, "Falls", Falls, api.IOpen, api.IRead, api.IWrite, api.IUnlink, api.IRename, api.IMkdir, api.IRmdir, api.ITrunc)
}

// TestFallsIsOfCalls: what may fail puts its answer, one number, on the stack.
func TestFallsIsOfCalls(t *testing.T) {
	for op := first; op <= last; op++ {
		if Falls(op) && (op < api.IOpen || Gives(op) != 1) {
			t.Errorf("%s may fail, and is no call", Name(op))
		}
	}
}
