package thread_test

import (
	"slices"
	"testing"

	"quarrel/api"
	"quarrel/thread"
)

// rows are some rows of transactions, of two objects, with each kind of operation.
func rows() [][]string {
	return [][]string{
		{"=5"}, {"x0"}, {"r0"}, {"w0"}, {"=7 w0", "r0 +1 w1"}, {"r0 w1", "r1 w0", "r0 r1"}, {"r0 x0 w1", "x1", "r1 x1 r1 w0"},
		{"=127 w0", "r0 +127 w0", "r0 +127 w0", "r0 +127 w0", "r0 +127 w0", "r0 +127 w0"},
		{"r0 -5 w0 r1 +5 w1", "r1 -128 w1 r0 +127 w0", "w0 w1", "r0 r0 +1 w0 r0 +1 w0", "=1 =2 +3 w1 x1 x0 r1 r0", "+1 +1 +1 +1 +1 +1 +1 w0"},
	}
}

// lasting asks a thread that ended alone for all that it promises: no transaction is left out, none was tried twice.
func (a *actor) lasting(all [][]api.Op, first []int64) {
	a.Helper()
	a.at(len(all), 0, len(all), true)
	a.values(alone(a.T, all, first)...)
	txn := 0
	for _, e := range a.Trace() {
		if e.Txn != txn || e.Attempt != 1 || e.Thread != a.no || e.Kind == api.EvAbort || e.Kind == api.EvRefuse {
			a.Errorf("alone: %+v", e)
		}
		if e.Kind == api.EvCommit {
			txn++
		}
	}
	if txn != len(all) || a.Tickets().Taken() != len(all) || a.Table().Count() != len(all) {
		a.Errorf("%d commits, %d tickets, %d descriptors", txn, a.Tickets().Taken(), a.Table().Count())
	}
	a.sees(false, 0, 0)
}

// P15.3: a thread alone commits all its transactions, by each manager, and leaves the values that they leave alone, one behind the other.
func TestAlone(t *testing.T) {
	for _, manager := range managers() {
		for _, words := range rows() {
			for no := range 3 {
				first := []int64{5, -6}
				s := by(t, manager, first...)
				a := s.thread(no, words...)
				a.run()
				a.lasting(txns(words...), first)
			}
		}
	}
}

// lists are all lists of so many operations on two objects.
func lists(n int) [][]api.Op {
	if n == 0 {
		return [][]api.Op{nil}
	}
	var all [][]api.Op
	for _, l := range lists(n - 1) {
		for _, w := range []string{"r0", "r1", "w0", "w1", "x0", "x1", "=9", "+2"} {
			all = append(all, append(slices.Clone(l), ops(w)...))
		}
	}
	return all
}

// P15.3: so do all pairs of transactions of one and two operations, and all rows of three of one.
func TestAllShortOnesAlone(t *testing.T) {
	one, short := lists(1), append(lists(1), lists(2)...)
	var all [][][]api.Op
	for _, a := range short {
		for _, b := range short {
			all = append(all, [][]api.Op{a, b})
		}
	}
	for _, a := range one {
		for _, b := range one {
			for _, c := range one {
				all = append(all, [][]api.Op{a, b, c})
			}
		}
	}
	for _, l := range all {
		for _, manager := range managers() {
			first := []int64{5, -6}
			s := by(t, manager, first...)
			a, e := thread.New(s.Floor, 1, l)
			if e != api.OK {
				t.Fatalf("New of %v: error %d", l, e)
			}
			for n := 0; a.Step(); n++ {
				if n > 300 {
					t.Fatalf("%v doesn't end", l)
				}
			}
			if a.Commits() != len(l) || a.Txn() != len(l) || !slices.Equal(s.Values(), alone(t, l, first)) {
				t.Fatalf("the manager %d, %v: %d commits, %v", manager, l, a.Commits(), s.Values())
			}
		}
	}
}

// P15.2: how many steps a thread takes alone, by each manager: ticket and begin, the attempt's steps, and Greedy's leave; an object that was written asks for its owner's status.
func TestStepsAlone(t *testing.T) {
	for _, q := range []struct {
		words []string
		steps [4]int // by Polite, Karma, Stamp, Greedy
	}{
		{nil, [4]int{0, 0, 0, 0}},
		{[]string{"=5"}, [4]int{4, 4, 4, 5}},
		{[]string{"=5 w0"}, [4]int{9, 10, 9, 11}}, // the chapter's example
		{[]string{"r0 +1 w0"}, [4]int{11, 13, 11, 14}},
		{[]string{"=5", "=5"}, [4]int{8, 8, 8, 10}},
		{[]string{"=5 w0", "=5 w0"}, [4]int{19, 21, 19, 23}},
		{[]string{"=5 w0", "=5 w1"}, [4]int{18, 20, 18, 22}},
		{[]string{"=5", "x0", "+1", "x1", "=7", "+8"}, [4]int{24, 24, 24, 30}},
		{[]string{"=5 +5 =5 +5 =5 +5 =5 +5", "r0"}, [4]int{19, 20, 19, 23}},
	} {
		for i, manager := range managers() {
			s := by(t, manager, 5, 6)
			a := s.thread(0, q.words...)
			if n := a.run(); n != q.steps[i] || a.Steps() != n || s.Gate().Pulse(0) != n {
				t.Errorf("the manager %d, %v: %d steps, Steps: %d, the pulse %d, not %d", manager, q.words, n, a.Steps(), s.Gate().Pulse(0), q.steps[i])
			}
		}
	}
}

// P15.2: the events that are noted, whole and in order, with each of their fields.
func TestEvents(t *testing.T) {
	for _, manager := range managers() {
		s := left(t, manager, 10, 4, 5, 6)
		s.Tickets().Take()
		a := s.thread(2, "r0 +1 w1 r1 x0 x0 w0", "=9 w0", "w1 w1", "=1")
		for a.Step() {
		}
		of := func(txn, attempt int, e api.Event) api.Event { e.Thread, e.Txn, e.Attempt = 2, txn, attempt; return e }
		want := []api.Event{
			of(0, 1, api.Event{Kind: api.EvBegin, Val: 1}),
			of(0, 1, api.Event{Kind: api.EvRead, Obj: 0, Val: 5}),
			of(0, 1, api.Event{Kind: api.EvWrite, Obj: 1, Val: 6}),
			of(0, 1, api.Event{Kind: api.EvRead, Obj: 1, Val: 6}),
			of(0, 1, api.Event{Kind: api.EvRelease, Obj: 0}),
			of(0, 1, api.Event{Kind: api.EvWrite, Obj: 0, Val: 6}),
			of(0, 1, api.Event{Kind: api.EvCommit}),
			of(1, 1, api.Event{Kind: api.EvBegin, Val: 2}),
			of(1, 1, api.Event{Kind: api.EvWrite, Obj: 0, Val: 9}),
			of(1, 1, api.Event{Kind: api.EvCommit}),
			of(2, 1, api.Event{Kind: api.EvBegin, Val: 3}),
			of(2, 1, api.Event{Kind: api.EvAbort, Reason: api.Memory}),
			of(3, 0, api.Event{Kind: api.EvRefuse, Reason: int(api.ErrExhausted)}),
		}
		if l := s.Trace(); !slices.Equal(l, want) {
			t.Errorf("Trace: %+v, not %+v", l, want)
		}
	}
}

// P15.3: room and tickets that are just enough: no more are wanted for a thread alone.
func TestJustEnough(t *testing.T) {
	for _, manager := range managers() {
		// A descriptor each, a version and a locator for each Write, a locator for each claim.
		s := left(t, manager, 3*1+2*2+1, 3, 5, 6)
		words := []string{"=7 w0", "r0 w1", "=1"}
		a := s.thread(0, words...)
		a.run()
		a.lasting(txns(words...), []int64{5, 6})
		if s.Arena().Left() != 0 {
			t.Errorf("the manager %d: room for %d is left", manager, s.Arena().Left())
		}
	}
}

// P15.3: a thread alone, behind others that stand still whatever they hold, commits all its transactions.
func TestAloneBehindOthers(t *testing.T) {
	for _, manager := range managers() {
		for i := range 24 {
			for j := range 24 {
				s := by(t, manager, 5, 6)
				a, b, c := s.thread(0, "r0 w1"), s.thread(1, "=3 w1 w0"), s.thread(2, "r0 +1 w0", "r1 +1 w1")
				for range i {
					a.Step()
				}
				for range j {
					b.Step()
				}
				ahead := s.Values()
				c.run()
				c.at(2, 0, 2, true)
				s.values(ahead[0]+1, ahead[1]+1)
			}
		}
	}
}
