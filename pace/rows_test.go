package pace_test

import (
	"math"
	"slices"
	"testing"
)

// beginnings asks each beginning of wishes for the beginning of their picks.
func beginnings(t *testing.T, wishes []int, n, f int) {
	t.Helper()
	picks := makes(t, wishes, n, f)
	for end := range wishes {
		made(t, wishes[:end], n, f, picks[:end])
	}
}

// P22.2, P22.3: all rows of up to six wishes, such as are no thread's among them, of one to three threads, held against plain ones: one that counts each one's patience, and one that looks whether the picks go on to be fair behind each wish.
func TestAllWishes(t *testing.T) {
	as, not := 0, 0
	for n := 1; n <= 3; n++ {
		turns := orders(n)
		for _, wishes := range rows(7-n/2, -1, n) {
			for f := n; f < n+4; f++ {
				want := byPatience(wishes, n, f)
				made(t, wishes, n, f, want)
				made(t, wishes, n, f, onward(wishes, n, f, turns))
				if slices.Equal(wishes, want) {
					as++
				} else {
					not++
				}
			}
		}
	}
	if as < 500 || not < 500 {
		t.Errorf("%d rows are picked as they are, %d aren't", as, not)
	}
}

// P22.3: all rows of up to six threads are picked as they are just if they are f-fair and go on to be so; those that are f-fair, and f or more, do go on.
func TestAsTheyAre(t *testing.T) {
	as, not, stops := 0, 0, 0
	for n := 1; n <= 4; n++ {
		turns := orders(n)
		for _, wishes := range rows(6, 0, n-1) {
			for f := n; f < n+5; f++ {
				is, goes := fair(wishes, n, f), goesOn(wishes, n, f, turns)
				if goes {
					as++
					made(t, wishes, n, f, wishes)
					continue
				}
				not++
				if slices.Equal(makes(t, wishes, n, f), wishes) {
					t.Fatalf("%v, %d threads, %d: picked as they are, but they don't go on", wishes, n, f)
				}
				if is {
					stops++
				}
				if is && len(wishes) >= f {
					t.Fatalf("%v, %d threads, %d: fair, but they don't go on", wishes, n, f)
				}
			}
		}
	}
	if as < 1000 || not < 1000 || stops < 100 {
		t.Errorf("%d rows go on to be fair, %d don't, %d of these are fair", as, not, stops)
	}
}

// P22.3: turn by turn, each time in an order that is thrown, nobody waits for more than two turns but two; such wishes are picked as they are, wherever they end.
func TestTurnByTurn(t *testing.T) {
	for seed := range 300 {
		d := dice(seed*7919 + 1)
		n := 1 + seed%6
		turns := orders(n)
		var wishes []int
		for range 8 {
			wishes = append(wishes, turns[d.to(len(turns))]...)
		}
		f := 2*n - 1
		isFair(t, wishes, n, f, true)
		for end := range len(wishes) + 1 {
			made(t, wishes[:end], n, f, wishes[:end])
			made(t, wishes[:end], n, f+d.to(5), wishes[:end])
		}
	}
}

// some are thrown values of f that may be, of so many threads.
func (d *dice) some(n int) []int {
	return []int{n, n + 1, n + 2 + d.to(4), 2*n - 1 + d.to(2), n + d.to(40), 64, 65, math.MaxInt - d.to(2)}
}

// P22.2, P22.3: thrown wishes of each n, with one and the same a few times, and with such as are no thread's, held against the plain one that counts patience; with all their beginnings, and with what is made of their picks.
func TestThrownWishes(t *testing.T) {
	as, not := 0, 0
	for seed := range 600 {
		d := dice(seed*7919 + 1)
		n := 1 + seed%6
		for _, f := range d.some(n) {
			wishes := d.row(d.to(150), -d.to(3), n-1+d.to(20))
			want := byPatience(wishes, n, f)
			made(t, wishes, n, f, want)
			made(t, want, n, f, want)
			if seed%4 == 0 {
				beginnings(t, wishes, n, f)
			}
			if slices.EqualFunc(wishes, want, func(wish, no int) bool { return wished(wish, n) == no }) {
				as++
			} else {
				not++
			}
		}
	}
	if as < 500 || not < 500 {
		t.Errorf("%d rows are picked as they are, %d aren't", as, not)
	}
}

// P22.3: thrown wishes of each n, held against the plain one that looks whether the picks go on to be fair, by all orders of the threads.
func TestThrownOnward(t *testing.T) {
	for seed := range 120 {
		d := dice(seed*104729 + 1)
		n := 1 + seed%6
		turns := orders(n)
		for _, f := range d.some(n)[:5] {
			wishes := d.row(d.to(30), -d.to(2), n-1+d.to(3))
			made(t, wishes, n, f, onward(wishes, n, f, turns))
		}
	}
}

// P22.3: what is made fair goes on to be so: made together with any wishes behind it, it stays as it is.
func TestGoesOn(t *testing.T) {
	for seed := range 120 {
		d := dice(seed*104729 + 1)
		n := 1 + seed%6
		turns := orders(n)
		for _, f := range d.some(n) {
			picks := makes(t, d.row(d.to(40), 0, n-1), n, f)
			if !goesOn(picks, n, f, turns) {
				t.Fatalf("%v, %d threads, %d: made fair, but they don't go on", picks, n, f)
			}
			together := makes(t, slices.Concat(picks, d.row(20, 0, n-1)), n, f)
			if !slices.Equal(together[:len(picks)], picks) {
				t.Fatalf("%v, %d threads, %d: made with more behind them they begin %v", picks, n, f, together)
			}
		}
	}
}
