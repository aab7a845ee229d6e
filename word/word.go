// Package word is layer 1: words that are changed in one step, and tickets. See shared/doc/01-word.md.
package word

import "quarrel/api"

// Word has a number.
type Word struct {
	number   int
	accesses int
}

// Of is a word that has a number.
func Of(n int) *Word { return &Word{number: n} }

// counted makes an access and counts it: nothing else counts, so that no access is left out, and none counted twice.
func (w *Word) counted(access func()) {
	w.accesses++
	access()
}

// Load is its number.
func (w *Word) Load() int {
	if w == nil {
		return 0
	}
	number := 0
	w.counted(func() { number = w.number })
	return number
}

// Swap lets it have another number, if it has an old one.
func (w *Word) Swap(old, new int) bool {
	if w == nil {
		return false
	}
	swapped := false
	w.counted(func() {
		if w.number == old {
			w.number, swapped = new, true
		}
	})
	return swapped
}

// Accesses is how often it was loaded or swapped.
func (w *Word) Accesses() int {
	if w == nil {
		return 0
	}
	return w.accesses
}

// Tickets tells numbers.
type Tickets struct {
	most  int
	taken int
}

// New is a row of tickets.
func New(most int) (*Tickets, api.Errno) {
	if most < 0 || most > api.MaxTickets {
		return nil, api.ErrRange
	}
	return &Tickets{most: most}, api.OK
}

// Take is the next ticket.
func (t *Tickets) Take() (int, api.Errno) {
	if t == nil {
		return 0, api.ErrNone
	}
	if t.taken >= t.most {
		return 0, api.ErrExhausted
	}
	// Tickets begin at 0, so the next one is as great as the number of those that were told.
	ticket := t.taken
	t.taken++
	return ticket, api.OK
}

// Taken is how many were told.
func (t *Tickets) Taken() int {
	if t == nil {
		return 0
	}
	return t.taken
}
