package opaque

import (
	"container/heap"

	"quarrel/hist"
)

// turn is a try in the heap out of which the order comes: the lesser rank goes first, of alike ones the lesser place.
type turn interface {
	rank() int
	place() int
}

// plain is the turn of a try that didn't commit: ahead of the one that made another state of the one that it fits.
type plain struct{ no, p int }

func (t plain) rank() int  { return 2 * t.p }
func (t plain) place() int { return t.no }

// done is the turn of a try that committed, behind all that saw the state ahead of it.
type done struct{ plain }

func (t done) rank() int { return t.plain.rank() + 1 }

// turnOf is a try's turn.
func turnOf(t hist.Try, no, p int) turn {
	if t.Committed {
		return done{plain{no, p}}
	}
	return plain{no, p}
}

// turns are a heap of the library.
type turns []turn

// Len is how many there are.
func (h turns) Len() int { return len(h) }

// Less says who goes first.
func (h turns) Less(i, j int) bool {
	if a, b := h[i].rank(), h[j].rank(); a != b {
		return a < b
	}
	return h[i].place() < h[j].place()
}

// Swap lets two change places.
func (h turns) Swap(i, j int) { h[i], h[j] = h[j], h[i] }

// Push puts one behind all others.
func (h *turns) Push(x any) {
	if t, is := x.(turn); is {
		*h = append(*h, t)
	}
}

// Pop takes the last one out.
func (h *turns) Pop() any {
	end := len(*h) - 1
	t := (*h)[end]
	*h = (*h)[:end]
	return t
}

// ordered are the tries' places in the order in which they have their turns.
func ordered(tries []hist.Try, seen []int) []int {
	h := &turns{}
	for no, p := range seen {
		heap.Push(h, turnOf(tries[no], no, p))
	}
	var order []int
	for h.Len() > 0 {
		if t, is := heap.Pop(h).(turn); is {
			order = append(order, t.place())
		}
	}
	return order
}
