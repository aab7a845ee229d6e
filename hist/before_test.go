package hist_test

import (
	"math"
	"slices"
	"testing"

	"quarrel/api"
	"quarrel/hist"
)

// P17.3: of each place, of one below 0, of the length and beyond it, of traces that are right and of others, just the EvCommit ahead of it.
func TestBefore(t *testing.T) {
	for _, c := range []struct {
		words string
		want  []int // of each place from 0 to the length
	}{
		{"", []int{0}},
		{"b001", []int{0, 0}},
		{"b001 c001", []int{0, 0, 1}},
		{"b001 b101 c001 r1010 c101 b201 a201!1 f300!5", []int{0, 0, 0, 1, 1, 2, 2, 2, 2}},
		{"c001", []int{0, 1}},
		{"c001 c001 r0010 c779 a001!1 b009 c001", []int{0, 1, 2, 2, 3, 3, 3, 4}},
		{"b001 c002 f000!5 b001", []int{0, 0, 1, 1, 1}},
	} {
		l := trace(c.words)
		for place, want := range c.want {
			if got := hist.Before(l, place); got != want {
				t.Errorf("%q, %d: %d, not %d", c.words, place, got, want)
			}
		}
		for _, place := range numbers() {
			want := 0
			if place > 0 {
				want = c.want[min(place, len(l))]
			}
			if got := hist.Before(l, place); got != want {
				t.Errorf("%q, %d: %d, not %d", c.words, place, got, want)
			}
		}
		check(t, l)
	}
}

// P17.3: what stands in a list's spare room is no event of it.
func TestBeforeAndSpareRoom(t *testing.T) {
	room := trace("b001 c001 c001 c001")
	for _, place := range []int{2, 3, 4, 5, math.MaxInt} {
		if got := hist.Before(room[:2], place); got != 1 {
			t.Errorf("%d: %d", place, got)
		}
	}
}

// P17.3: any kinds, threads, transactions and attempts: EvCommit alone counts, whosever it is.
func TestBeforeOfAnything(t *testing.T) {
	var l []api.Event
	want := []int{0}
	for _, kind := range numbers() {
		for _, n := range numbers() {
			l = append(l, api.Event{Kind: kind, Thread: n, Txn: n, Attempt: n, Obj: n, Val: int64(n), Reason: n})
			next := want[len(want)-1]
			if kind == 5 {
				next++
			}
			want = append(want, next)
		}
	}
	for place, n := range want {
		if got := hist.Before(l, place); got != n {
			t.Errorf("%d: %d, not %d", place, got, n)
		}
	}
	if n := len(numbers()); want[len(l)] != n || !slices.Equal(want[:1], []int{0}) {
		t.Errorf("%d commits", want[len(l)])
	}
}
