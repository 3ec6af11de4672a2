package names

import "testing"

// P12.1, Deep.

func TestDeepOne(t *testing.T) {
	one, _, _ := kinds()
	for _, s := range one {
		deep(t, s, 1)
	}
}

func TestDeepTwo(t *testing.T) {
	_, two, _ := kinds()
	for _, s := range append(two, twos(8)...) {
		deep(t, s, 2)
	}
}

// TestDeepNoName: it has no parts, however many strokes.
func TestDeepNoName(t *testing.T) {
	_, _, none := kinds()
	for _, s := range append(none, twos(9)...) {
		deep(t, s, 0)
	}
}

// TestDeepOfFew: all short texts.
func TestDeepOfFew(t *testing.T) {
	for _, s := range append(short(6, "a9_./A"), short(9, "a./")...) {
		deep(t, s, len(parts(s)))
	}
}
