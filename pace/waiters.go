package pace

import (
	"container/heap"
	"slices"

	"quarrel/api"
)

// waiter is a thread in the heap out of which the least patience comes: the least number of alike ones.
type waiter interface {
	number() int
	patience() int
	set(patience int)
}

// thread is one of those that may be picked.
type thread struct{ no, left int }

func (t *thread) number() int      { return t.no }
func (t *thread) patience() int    { return t.left }
func (t *thread) set(patience int) { t.left = patience }

// waiters are a heap of the library.
type waiters []waiter

// begin are n threads of one patience.
func begin(n, patience int) *waiters {
	h := &waiters{}
	for no := range n {
		heap.Push(h, &thread{no: no, left: patience})
	}
	return h
}

// Len is how many there are.
func (h waiters) Len() int { return len(h) }

// Less says whose turn comes first.
func (h waiters) Less(i, j int) bool {
	if a, b := h[i].patience(), h[j].patience(); a != b {
		return a < b
	}
	return h[i].number() < h[j].number()
}

// Swap lets two change places.
func (h waiters) Swap(i, j int) { h[i], h[j] = h[j], h[i] }

// Push puts one behind all others.
func (h *waiters) Push(x any) {
	if t, is := x.(waiter); is {
		*h = append(*h, t)
	}
}

// Pop takes the last one out.
func (h *waiters) Pop() any {
	end := len(*h) - 1
	t := (*h)[end]
	*h = (*h)[:end]
	return t
}

// pick is the pick of a wish for a thread: that one, or the one of the least patience. Who is picked has a patience anew.
func (h *waiters) pick(wish, anew int) int {
	no := 0
	if t, is := h.out(wish).(waiter); is {
		h.wait()
		t.set(anew)
		heap.Push(h, t)
		no = t.number()
	}
	return no
}

// out takes the one that is picked out of the heap.
func (h *waiters) out(wish int) any {
	if !h.canWait(wish) {
		return heap.Pop(h)
	}
	return heap.Remove(h, slices.IndexFunc(*h, func(t waiter) bool { return t.number() == wish }))
}

// canWait says whether all but one can still wait behind a pick of that one: whether they could be picked just then, in the order of their patience, each in time.
func (h waiters) canWait(but int) bool {
	left := make([]int, 0, api.MaxThreads)
	for _, t := range h {
		if t.number() != but {
			left = append(left, t.patience()-1)
		}
	}
	slices.Sort(left)
	for k, patience := range left {
		if patience < k {
			return false
		}
	}
	return true
}

// wait lets all have one less; since it is all of them, they still are a heap.
func (h waiters) wait() {
	for _, t := range h {
		t.set(t.patience() - 1)
	}
}
