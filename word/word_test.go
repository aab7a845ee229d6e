package word_test

import (
	"math"
	"testing"

	"quarrel/api"
	"quarrel/word"
)

// numbers are ordinary ones, and those at the ends of what an int can be.
func numbers() []int {
	return []int{0, 1, -1, 7, -7, 255, 256, math.MaxInt32, math.MinInt32, math.MaxInt, math.MinInt}
}

// P1.1: a word has the number it was made of, whatever that is, and loading leaves it.
func TestOfAndLoad(t *testing.T) {
	for _, n := range numbers() {
		w := word.Of(n)
		if w == nil {
			t.Fatal("no word of", n)
		}
		if a := w.Accesses(); a != 0 {
			t.Errorf("Of(%d): %d accesses ahead of any", n, a)
		}
		for range 3 {
			if got := w.Load(); got != n {
				t.Errorf("Of(%d): Load: %d", n, got)
			}
		}
		if a := w.Accesses(); a != 3 {
			t.Errorf("Of(%d): %d accesses behind three loads", n, a)
		}
	}
}

// P1.1: a swap changes the number just if the old one is there; one of a number against itself is true, and changes nothing.
func TestSwap(t *testing.T) {
	for _, has := range numbers() {
		for _, old := range numbers() {
			for _, next := range numbers() {
				w := word.Of(has)
				want := has
				if has == old {
					want = next
				}
				if got := w.Swap(old, next); got != (has == old) {
					t.Errorf("Of(%d).Swap(%d, %d): %v", has, old, next, got)
				}
				if a := w.Accesses(); a != 1 {
					t.Errorf("Of(%d).Swap(%d, %d): %d accesses", has, old, next, a)
				}
				if got := w.Load(); got != want {
					t.Errorf("Of(%d).Swap(%d, %d): Load: %d, not %d", has, old, next, got, want)
				}
			}
		}
	}
}

// P1.1: loads count, swaps count whether they are true or not, and asking how many there were doesn't.
func TestAccesses(t *testing.T) {
	w := word.Of(3)
	steps := []struct {
		what string
		do   func()
	}{
		{"load", func() { w.Load() }},
		{"swap that is true", func() { w.Swap(3, 4) }},
		{"swap that fails", func() { w.Swap(3, 5) }},
		{"swap of a number against itself", func() { w.Swap(4, 4) }},
		{"swap of a number against itself that fails", func() { w.Swap(3, 3) }},
		{"load again", func() { w.Load() }},
	}
	for i, s := range steps {
		s.do()
		for range 2 {
			if a := w.Accesses(); a != i+1 {
				t.Errorf("%s: %d accesses, not %d", s.what, a, i+1)
			}
		}
	}
}

// P1.1, the chapter's example.
func TestExample(t *testing.T) {
	w := word.Of(3)
	if !w.Swap(3, 4) {
		t.Error("Swap(3, 4): false")
	}
	if w.Swap(3, 5) {
		t.Error("Swap(3, 5): true")
	}
	if n := w.Load(); n != 4 {
		t.Error("Load:", n)
	}
	if a := w.Accesses(); a != 3 {
		t.Error("Accesses:", a)
	}
}

// P1.1: all short sequences of calls on a word answer what a plain number and a plain count do.
func TestSequences(t *testing.T) {
	const calls, length = 6, 5
	all := 1
	for range length {
		all *= calls
	}
	for sequence := range all {
		w, number, accesses := word.Of(0), 0, 0
		for rest, i := sequence, 0; i < length; rest, i = rest/calls, i+1 {
			call := rest % calls
			switch {
			case call == 0:
				accesses++
				if n := w.Load(); n != number {
					t.Fatalf("sequence %d, call %d: Load: %d, not %d", sequence, i, n, number)
				}
			case call == 1:
				if a := w.Accesses(); a != accesses {
					t.Fatalf("sequence %d, call %d: Accesses: %d, not %d", sequence, i, a, accesses)
				}
			default:
				old, next := (call-2)%2, (call-2)/2
				want := number == old
				accesses++
				if want {
					number = next
				}
				if got := w.Swap(old, next); got != want {
					t.Fatalf("sequence %d, call %d: Swap(%d, %d): %v", sequence, i, old, next, got)
				}
			}
		}
		if a := w.Accesses(); a != accesses {
			t.Fatalf("sequence %d: %d accesses, not %d", sequence, a, accesses)
		}
		if n := w.Load(); n != number {
			t.Fatalf("sequence %d: the number %d, not %d", sequence, n, number)
		}
	}
}

// P1.1: what is done to one word plays no part for another one.
func TestWordsApart(t *testing.T) {
	a, b := word.Of(1), word.Of(1)
	if !a.Swap(1, 2) || a.Load() != 2 {
		t.Error("the first word wasn't swapped")
	}
	if n := b.Accesses(); n != 0 {
		t.Error("the second word has accesses:", n)
	}
	if n := b.Load(); n != 1 {
		t.Error("the second word's number:", n)
	}
}

// P1.1: a nil word answers 0 and false, whatever it is asked.
func TestNilWord(t *testing.T) {
	var w *word.Word
	for range 2 {
		if n := w.Load(); n != 0 {
			t.Error("Load:", n)
		}
		if w.Swap(0, 0) || w.Swap(0, 1) || w.Swap(1, 0) {
			t.Error("Swap: true")
		}
		if a := w.Accesses(); a != 0 {
			t.Error("Accesses:", a)
		}
	}
}

// P1.2: a cap from 0 to 255 may be, and no other one.
func TestNewCaps(t *testing.T) {
	for most := -300; most <= 600; most++ {
		checkCap(t, most)
	}
	for _, most := range []int{math.MinInt, math.MinInt32, math.MaxInt32, math.MaxInt} {
		checkCap(t, most)
	}
}

func checkCap(t *testing.T, most int) {
	t.Helper()
	row, e := word.New(most)
	if most < 0 || most > 255 {
		if row != nil || e != api.ErrRange {
			t.Errorf("New(%d): a row: %v, error %d", most, row != nil, e)
		}
		return
	}
	if row == nil || e != api.OK {
		t.Fatalf("New(%d): a row: %v, error %d", most, row != nil, e)
	}
	if n := row.Taken(); n != 0 {
		t.Errorf("New(%d): %d taken ahead of any", most, n)
	}
}

// P1.2: of any cap that may be the tickets are 0, 1, 2 and so on; behind the last one the row stays exhausted, and counts no more.
func TestTake(t *testing.T) {
	for most := 0; most <= 255; most++ {
		row, e := word.New(most)
		if row == nil || e != api.OK {
			t.Fatalf("New(%d): error %d", most, e)
		}
		for want := range most {
			if n, e := row.Take(); n != want || e != api.OK {
				t.Errorf("cap %d: the ticket %d: %d, error %d", most, want, n, e)
			}
			if n := row.Taken(); n != want+1 {
				t.Errorf("cap %d: %d taken behind the ticket %d", most, n, want)
			}
		}
		for range 3 {
			if n, e := row.Take(); n != 0 || e != api.ErrExhausted {
				t.Errorf("cap %d, exhausted: %d, error %d", most, n, e)
			}
			if n := row.Taken(); n != most {
				t.Errorf("cap %d, exhausted: %d taken", most, n)
			}
		}
	}
}

// P1.2: what is taken of one row plays no part for another one.
func TestRowsApart(t *testing.T) {
	a, _ := word.New(1)
	b, _ := word.New(1)
	if n, e := a.Take(); n != 0 || e != api.OK {
		t.Errorf("the first row: %d, error %d", n, e)
	}
	if n := b.Taken(); n != 0 {
		t.Error("the second row has told tickets:", n)
	}
	if n, e := b.Take(); n != 0 || e != api.OK {
		t.Errorf("the second row: %d, error %d", n, e)
	}
}

// P1.2: a nil row has no ticket.
func TestNilRow(t *testing.T) {
	var row *word.Tickets
	for range 2 {
		if n, e := row.Take(); n != 0 || e != api.ErrNone {
			t.Errorf("Take: %d, error %d", n, e)
		}
		if n := row.Taken(); n != 0 {
			t.Error("Taken:", n)
		}
	}
}

// P1.3: of swaps from the number that is there to other ones the first one is true, and no other one, whether their new numbers are alike or not.
func TestOneSwapIsTrue(t *testing.T) {
	rivals := [][]int{{1}, {1, 1}, {1, 2}, {2, 1, 3}, {4, 4, 4, 4}, {5, -5, 5, 9, math.MaxInt, math.MinInt}}
	for _, old := range []int{0, 8, -8} {
		for _, next := range rivals {
			w := word.Of(old)
			won := 0
			for _, n := range next {
				if w.Swap(old, n) {
					won++
				}
			}
			if won != 1 {
				t.Errorf("from %d to %v: %d swaps are true", old, next, won)
			}
			if n := w.Load(); n != next[0] {
				t.Errorf("from %d to %v: the number %d", old, next, n)
			}
		}
	}
}

// P1.3: where the old number isn't there, none of the swaps is true; where it comes again, one more is.
func TestSwapsBehindOthers(t *testing.T) {
	w := word.Of(1)
	for n := 2; n < 6; n++ {
		if w.Swap(0, n) {
			t.Errorf("Swap(0, %d) of 1: true", n)
		}
	}
	if !w.Swap(1, 0) {
		t.Fatal("Swap(1, 0) of 1: false")
	}
	if !w.Swap(0, 1) || w.Swap(0, 1) {
		t.Error("of two swaps from 0 to 1 not just the first one is true")
	}
}

// P1.3: all tickets of a row are different, and none is told behind its end.
func TestTicketsAreDifferent(t *testing.T) {
	for _, most := range []int{0, 1, 2, 100, 254, 255} {
		row, e := word.New(most)
		if row == nil || e != api.OK {
			t.Fatalf("New(%d): error %d", most, e)
		}
		told := map[int]bool{}
		for range most + 50 {
			n, e := row.Take()
			if e != api.OK {
				continue
			}
			if told[n] {
				t.Errorf("cap %d: the ticket %d twice", most, n)
			}
			told[n] = true
		}
		if len(told) != most {
			t.Errorf("cap %d: %d tickets", most, len(told))
		}
	}
}
