package dpll

import (
	"math/rand"
	"slices"
	"testing"
)

// emptied answers all that waits in q, in order.
func emptied(q *queue) (l []int32) {
	for v := q.take(); v != none; v = q.take() {
		l = append(l, v)
	}
	return l
}

// TestQueueOfEquals: the lowest first, in whatever order and how often they were added.
func TestQueueOfEquals(t *testing.T) {
	q := newQueue(6)
	for _, v := range []int32{4, 0, 5, 2, 4, 0} {
		q.add(v)
	}
	if l := emptied(&q); !slices.Equal(l, []int32{0, 2, 4, 5}) {
		t.Errorf("in this order: %v", l)
	}
	if v := q.take(); v != none {
		t.Errorf("an empty queue has %d", v)
	}
}

// TestQueueOfPreferred: the one that was raised last ahead of what was raised before, whether it waited then or not.
func TestQueueOfPreferred(t *testing.T) {
	q := newQueue(6)
	for _, v := range []int32{5, 4, 3, 2, 1} {
		q.add(v)
	}
	q.prefer([]int32{4, 0})
	q.prefer([]int32{2})
	q.prefer([]int32{5, 3})
	q.prefer([]int32{5})
	q.add(0)
	if l := emptied(&q); !slices.Equal(l, []int32{5, 3, 2, 0, 4, 1}) {
		t.Errorf("in this order: %v", l)
	}
}

// TestQueueOfLong: however much was raised, scores stay numbers above 0, and the heap one.
func TestQueueOfLong(t *testing.T) {
	r := rand.New(rand.NewSource(14))
	const n = 40
	q := newQueue(n)
	waits := map[int32]bool{}
	for range 20000 {
		switch r.Intn(3) {
		case 0:
			v := int32(r.Intn(n))
			q.add(v)
			waits[v] = true
		case 1:
			want := int32(none)
			for v := range int32(n) {
				if waits[v] && (want == none || q.score[v] > q.score[want]) {
					want = v
				}
			}
			if v := q.take(); v != want {
				t.Fatalf("%d comes first, not %d", v, want)
			}
			delete(waits, want)
		case 2:
			var l []int32
			for _, v := range r.Perm(n)[:1+r.Intn(4)] {
				l = append(l, int32(v))
			}
			q.prefer(l)
			if q.score[l[0]] < q.raise/2 || slices.Min(q.score) < 0 {
				t.Fatalf("scores %v, raised by %d", q.score, q.raise)
			}
		}
	}
}
