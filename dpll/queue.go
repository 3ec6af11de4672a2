package dpll

// How much a number is raised at first; from when on all are lowered, and by how many bits, so that no sum is too great for its type.
const (
	raiseFirst = 1 << 16
	raiseMost  = 1 << 56
	lowerBits  = 40
)

// A queue has numbers that wait for a decision: a heap, above all others the one that was raised most, of equals the lowest.
type queue struct {
	heap  []int32
	place []int32 // by number: where in the heap, or none
	score []int64 // by number
	raise int64   // how much one is raised now: ever more, so that what was long ago counts little
}

// newQueue is a queue for numbers from 0 to below n, of which none waits.
func newQueue(n int) queue {
	q := queue{place: make([]int32, n), score: make([]int64, n), raise: raiseFirst}
	for v := range q.place {
		q.place[v] = none
	}
	return q
}

// add has v wait.
func (q *queue) add(v int32) {
	if q.place[v] == none {
		q.heap = append(q.heap, v)
		q.up(len(q.heap)-1, v)
	}
}

// take answers the first that waits, which waits no more, or none.
func (q *queue) take() int32 {
	if len(q.heap) == 0 {
		return none
	}
	v, end := q.heap[0], len(q.heap)-1
	last := q.heap[end]
	q.heap, q.place[v] = q.heap[:end], none
	if end > 0 {
		q.down(0, last)
	}
	return v
}

// prefer raises these numbers.
func (q *queue) prefer(l []int32) {
	for _, v := range l {
		q.score[v] += q.raise
		if i := q.place[v]; i != none {
			q.up(int(i), v)
		}
	}
	q.raise += q.raise >> 4
	if q.raise > raiseMost {
		q.lower()
	}
}

// lower lowers all, and what is to come.
func (q *queue) lower() {
	q.raise >>= lowerBits
	for v := range q.score {
		q.score[v] >>= lowerBits
	}
	for i := len(q.heap)/2 - 1; i >= 0; i-- { // some are equals now that were not
		q.down(i, q.heap[i])
	}
}

// ahead tells whether v comes ahead of w.
func (q *queue) ahead(v, w int32) bool {
	return q.score[v] > q.score[w] || q.score[v] == q.score[w] && v < w
}

// up puts v at i, or above it where it comes ahead.
func (q *queue) up(i int, v int32) {
	for i > 0 && q.ahead(v, q.heap[(i-1)/2]) {
		q.put(i, q.heap[(i-1)/2])
		i = (i - 1) / 2
	}
	q.put(i, v)
}

// down puts v at i, or below it where others come ahead.
func (q *queue) down(i int, v int32) {
	for {
		k := 2*i + 1
		if k+1 < len(q.heap) && q.ahead(q.heap[k+1], q.heap[k]) {
			k++
		}
		if k >= len(q.heap) || q.ahead(v, q.heap[k]) {
			break
		}
		q.put(i, q.heap[k])
		i = k
	}
	q.put(i, v)
}

// put puts v at i.
func (q *queue) put(i int, v int32) {
	q.heap[i], q.place[v] = v, int32(i)
}
