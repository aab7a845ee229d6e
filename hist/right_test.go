package hist_test

import (
	"math"
	"slices"
	"testing"

	"quarrel/api"
	"quarrel/hist"
)

// P17.1, P17.2: no event, nil and empty.
func TestNoEvent(t *testing.T) {
	for _, l := range [][]api.Event{nil, {}, make([]api.Event, 0, 9)} {
		something(t, l, 0, 0)
	}
}

// P17.1: of one event alone an EvBegin of the Attempt 1, and an EvRefuse, are right.
func TestOneEvent(t *testing.T) {
	for letter, kind := range letters() {
		for _, attempt := range numbers() {
			l := []api.Event{{Kind: kind, Attempt: attempt}}
			switch {
			case kind == api.EvBegin && attempt == 1:
				something(t, l, 1, 0)
			case kind == api.EvRefuse:
				something(t, l, 0, 0)
			default:
				nothing(t, l)
			}
			if hist.Right(l) != right(l) {
				t.Errorf("%c of the Attempt %d", letter, attempt)
			}
		}
	}
}

// P17.1: traces that are right.
func TestRight(t *testing.T) {
	for _, c := range []struct {
		words          string
		all, committed int
	}{
		{"b001=3 r0010=5 c001", 1, 1},
		{"b001 c001", 1, 1},
		{"b001 a001!1", 1, 0},
		{"b001 a001!2 b002 a002!3 b003 a003!4", 3, 0},
		{"b001 a001!2 b002 c002", 2, 1},
		{"b001 c001 b002 c002", 2, 2},
		{"b001 r0010 w0011 x0010 r0010 w0010", 1, 0},
		{"b001 x0010 x0010 c001", 1, 1},
		{"b001 c001 b011 c011 b021 c021", 3, 3},
		{"b021 c021 b011 c011 b001 c001", 3, 3},
		{"b001 a001!1 b011 a011!1 b002 a002!1 b012 c012 b003 c003", 5, 2},
		{"b001 b101 r1010 r0010 c101 b111 w0011 c001 c111", 3, 3},
		{"b001 b101 b201 b301 b401 b501", 6, 0},
		{"b101 a101!2 b001 b102 c102 c001", 3, 2},
		{"f000!5 f000!5 f010!4 b021 c021 f030!5", 1, 1},
		{"b001 a001!2 f000!4 b002 c002 f000!4", 2, 1},
		{"b001 f100!5 r0010 f110!5 c001", 1, 1},
		{"f107!5", 0, 0},
	} {
		something(t, trace(c.words), c.all, c.committed)
	}
}

// P17.1, P17.2: traces of which one event is wrong, the last one: none is right, nor what goes on from it; without that one it is.
func TestWrong(t *testing.T) {
	for _, words := range []string{
		// The Attempt is too small, or too great.
		"b000", "b002", "b003",
		"b001 a001!1 b001", "b001 a001!1 b000", "b001 a001!1 b003", "b001 c001 b001", "b001 c001 b003",
		"b001 a001!1 b002 a002!1 b002", "b001 a001!1 b002 a002!1 b001", "b001 a001!1 b002 a002!1 b004",
		// It goes on from another transaction's, or another thread's.
		"b001 a001!1 b012", "b001 a001!1 b002 a002!1 b013", "b001 a001!1 b011 a011!1 b003", "b001 a001!1 b011 a011!1 b001",
		"b001 a001!1 b102", "b001 a001!1 b002 c002 b103", "b001 b102", "b001 a001!1 b101 a101!1 b103",
		"b101 a101!1 b011 a011!1 b002",
		// An EvRefuse counts for nothing.
		"f001!5 b002", "b001 a001!1 f002!4 b003", "b001 a001!1 f000!4 b001",
		// The thread's last try has not ended.
		"b001 b001", "b001 b002", "b001 b011", "b001 r0010 b002", "b001 a001!1 b002 b003", "b001 a001!1 b002 b011", "b001 c001 b011 b021", "b001 b101 c101 b002", "b101 b001 c001 b111",
		"b001 f000!5", "b001 f001!4", "b001 f010!5", "b001 w0010 f000!4", "b001 a001!1 b002 f000!4", "b001 b101 c101 f000!4", "b001 c001 b011 f000!5",
		// The thread began nothing.
		"r0010", "w0010", "x0010", "c001", "a001!1", "b001 r1010", "b001 w1010", "b001 x1010", "b001 c101", "b001 a101!1", "f000!5 c000", "f000!5 r0000", "f001!5 r0010", "f000!5 a000!1", "b001 c001 c101",
		// Its last try has ended.
		"b001 c001 r0010", "b001 c001 w0010", "b001 c001 x0010", "b001 c001 c001", "b001 c001 a001!1", "b001 a001!1 r0010", "b001 a001!1 w0010", "b001 a001!1 x0010", "b001 a001!1 c001", "b001 a001!1 a001!1",
		"b001 b101 c001 r0010", "b001 b101 c001 c001", "b001 a001!1 f000!4 c001", "b001 a001!1 f000!4 r0010",
		// Another Txn.
		"b001 r0110", "b001 w0110", "b001 x0110", "b001 c011", "b001 a011!1", "b011 r0010", "b011 c001", "b001 c001 b011 r0010", "b001 c001 b011 c001", "b001 b111 c011", "b001 b111 a101!1",
		// Another Attempt.
		"b001 r0020", "b001 w0020", "b001 x0020", "b001 c002", "b001 a002!1", "b001 r0000", "b001 c000", "b001 a000!1", "b001 a001!1 b002 r0010", "b001 a001!1 b002 w0010", "b001 a001!1 b002 x0010", "b001 a001!1 b002 c001", "b001 a001!1 b002 a001!2", "b001 a001!1 b002 b101 c101 c001", "b001 a001!1 b002 b101 c102",
	} {
		l := trace(words)
		nothing(t, l)
		if !hist.Right(l[:len(l)-1]) {
			t.Errorf("%q isn't right ahead of its last event", words)
		}
		for _, behind := range []string{"b401 c401", "f400!5", "c001", "a001!1 b002"} {
			nothing(t, append(trace(words), trace(behind)...))
		}
		nothing(t, append(trace("b801 a801!3 b911"), l...))
	}
}

// P17.1: kinds that there are not, ahead of, between and behind right events, of threads whose try has ended or not.
func TestNoSuchKind(t *testing.T) {
	for _, kind := range []int{0, -1, -2, -7, 8, 9, 255, 257, 1<<32 + 1, 1<<32 + 7, math.MaxInt, math.MinInt, math.MinInt + 1} {
		l := trace("b001 b101 r0010 c001")
		for at := range len(l) + 1 {
			for thread := range 3 {
				e := api.Event{Kind: kind, Thread: thread, Attempt: 1}
				nothing(t, slices.Insert(slices.Clone(l), at, e))
			}
		}
	}
}

// P17.1: threads and transactions are any numbers, told apart one by one.
func TestAnyThreadAndTransaction(t *testing.T) {
	of := func(words string, thread, txn int) []api.Event {
		l := trace(words)
		for i := range l {
			l[i].Thread, l[i].Txn = thread, txn
		}
		return l
	}
	for _, thread := range numbers() {
		for _, txn := range numbers() {
			something(t, of("b001 r0010 a001!1 b002 c002", thread, txn), 2, 1)
			something(t, of("f000!5 b001", thread, txn), 1, 0)
			nothing(t, of("b002", thread, txn))
			nothing(t, of("b001 f000!5", thread, txn))
			nothing(t, of("b001 c001 r0010", thread, txn))
			for _, other := range numbers() {
				l := slices.Concat(of("b001", thread, txn), of("b001 c001", other, txn), of("c001", thread, txn))
				if got := hist.Right(l); got != (other != thread) {
					t.Errorf("the threads %d and %d: %v", thread, other, got)
				}
				l = slices.Concat(of("b001 a001!1", thread, txn), of("b001 c001", thread, other), of("b002", thread, txn))
				if got := hist.Right(l); got != (other != txn) {
					t.Errorf("the transactions %d and %d: %v", txn, other, got)
				}
				l = slices.Concat(of("b001", thread, txn), of("c001", thread, other))
				if got := hist.Right(l); got != (other == txn) {
					t.Errorf("a commit of %d in %d: %v", other, txn, got)
				}
			}
		}
	}
}

// P17.1: of an Attempt just the next one goes on; no number comes round again.
func TestAnyAttempt(t *testing.T) {
	for _, n := range numbers() {
		for _, words := range []string{"", "b001 a001!1", "b001 a001!1 b002 c002", "b001 a001!1 b011 a011!1 b012 a012!1"} {
			l := append(trace(words), api.Event{Kind: api.EvBegin, Attempt: n})
			if got := hist.Right(l); got != right(l) {
				t.Errorf("%v: %v", l, got)
			}
			check(t, l)
		}
		for _, kind := range []int{api.EvRead, api.EvWrite, api.EvRelease, api.EvCommit, api.EvAbort} {
			l := append(trace("b001 a001!1 b002"), api.Event{Kind: kind, Attempt: n})
			if got := hist.Right(l); got != (n == 2) {
				t.Errorf("%v: %v", l, got)
			}
			check(t, l)
		}
		something(t, append(trace("b001 a001!1"), api.Event{Kind: api.EvRefuse, Attempt: n}), 1, 0)
	}
	for n := 1; n < 300; n++ {
		var l []api.Event
		for attempt := range n {
			l = append(l, api.Event{Kind: api.EvBegin, Attempt: attempt + 1}, api.Event{Kind: api.EvAbort, Attempt: attempt + 1, Reason: api.Enemy})
		}
		if !hist.Right(l) || len(hist.Tries(l)) != n {
			t.Fatalf("%d tries: %v, %d", n, hist.Right(l), len(hist.Tries(l)))
		}
	}
}

// P17.1: objects, values, stamps and reasons are any numbers; none of them is asked for.
func TestAnyFields(t *testing.T) {
	for _, n := range numbers() {
		l := trace("f000!5 b001 r0010 w0011 x0010 a001!1 b002 c002 f010!4")
		for i := range l {
			l[i].Obj, l[i].Val, l[i].Reason = n, int64(n), n
		}
		something(t, l, 2, 1)
	}
}

// P17.1, P17.4: all short traces, and of right ones what may come behind them: of two threads, and, longer ones, of one, with two transactions each.
func TestAllShortTraces(t *testing.T) {
	all := func(threads, txns int) []api.Event {
		var l []api.Event
		for kind := range 9 {
			for thread := range threads {
				for txn := range txns {
					for attempt := range 3 {
						l = append(l, api.Event{Kind: kind, Thread: thread, Txn: txn, Attempt: attempt + 1, Reason: kind / 6})
					}
				}
			}
		}
		return l
	}
	var on func(l, events []api.Event, more int) int
	on = func(l, events []api.Event, more int) int {
		n := 0
		for _, e := range events {
			next := append(slices.Clone(l), e)
			got := hist.Right(next)
			if got != fits(next, len(next)-1) {
				t.Fatalf("Right of %v: %v", next, got)
			}
			n++
			if got && more > 1 {
				n += on(next, events, more-1)
			}
			if len(next) <= 3 || n%50 == 0 {
				check(t, next)
			}
		}
		return n
	}
	if n := on(nil, all(2, 2), 4) + on(nil, all(1, 2), 5); n < 50_000 {
		t.Errorf("only %d traces", n)
	}
}
