package thread_test

import (
	"slices"
	"testing"

	"quarrel/api"
)

// P15.2: what each step changes, of two transactions one behind the other, by Polite: ticket, begin, the attempt's steps; the events whole; Txn, Try, Commits and Done at each of them.
func TestEachStep(t *testing.T) {
	s := by(t, api.Polite, 5)
	a := s.thread(1, "=7 w0", "r0 +1 w0")
	a.at(0, 0, 0, false)
	a.makes("tickets: 1", "descriptor 2: 1 0 1 0, begin 1.0.1 0, try: 1")
	a.makes("-", "-", "version 3: 7", "locator 4: 2 0 3", "cell 0: 4", "write 1.0.1 0 7")
	a.makes("status 2: 2, values: [7], commit 1.0.1, txn: 1, try: 0, commits: 1")
	if a.Steps() != 9 { // the chapter's example
		t.Errorf("Steps: %d", a.Steps())
	}
	a.makes("tickets: 2", "descriptor 5: 1 1 1 1, begin 1.1.1 1, try: 1")
	a.makes("-", "-", "read 1.1.1 0 7", "-")
	a.makes("-", "-", "version 6: 8", "locator 7: 5 3 6", "cell 0: 7", "write 1.1.1 0 8")
	a.ends("status 5: 2, values: [8], commit 1.1.1, txn: 2, try: 0, commits: 2, done: true")
	a.at(2, 0, 2, true)
}

// P15.2: so by the other managers: only Greedy leaves, in a step of its own, and not ahead of that is the next transaction at hand.
func TestEachStepByEachManager(t *testing.T) {
	for _, manager := range managers() {
		s := by(t, manager, 5)
		a := s.thread(2, "=7 w0", "r0")
		a.makes("tickets: 1", "descriptor 2: 2 0 1 0, begin 2.0.1 0, try: 1", "-")
		if manager == api.Greedy {
			a.makes("-")
		}
		a.makes("-", "version 3: 7", "locator 4: 2 0 3", "cell 0: 4")
		if manager == api.Karma {
			a.makes("priority 2: 1")
		}
		a.makes("write 2.0.1 0 7")
		if manager == api.Greedy {
			a.makes("status 2: 2, values: [7], commit 2.0.1, commits: 1")
			a.at(0, 1, 1, false)
			a.makes("txn: 1, try: 0")
		} else {
			a.makes("status 2: 2, values: [7], commit 2.0.1, txn: 1, try: 0, commits: 1")
		}
		a.at(1, 0, 1, false)
		a.makes("tickets: 2", "descriptor 5: 2 1 1 1, begin 2.1.1 1, try: 1")
		a.till("read 2.1.1 0 7")
		a.till("commit 2.1.1")
		if manager == api.Greedy {
			a.at(1, 1, 2, false)
			a.makes("txn: 2, try: 0, done: true")
		}
		a.ended()
		a.at(2, 0, 2, true)
		a.story("begin 2.0.1 0", "write 2.0.1 0 7", "commit 2.0.1", "begin 2.1.1 1", "read 2.1.1 0 7", "commit 2.1.1")
	}
}

// P15.2: a thread without transactions is done, and makes no step, nor does its pulse go on.
func TestNone(t *testing.T) {
	for _, manager := range managers() {
		s := by(t, manager, 5)
		for _, words := range [][]string{nil, {}} {
			a := s.thread(0, words...)
			a.at(0, 0, 0, true)
			a.ended()
			if a.Steps() != 0 || !slices.Equal(s.pulses(), []int{0, 0, 0}) || s.Tickets().Taken() != 0 {
				t.Errorf("%d steps, pulses %v", a.Steps(), s.pulses())
			}
		}
	}
}

// P15.2: the pulse is one more with each step, of all kinds of steps, and so are Steps; not of a thread that is done.
func TestPulse(t *testing.T) {
	for _, manager := range managers() {
		s := left(t, manager, 8, 4, 5)
		a := s.thread(2, "r0 +1 w0", "=1", "=2", "w0 w0", "=3", "=4")
		b := s.thread(1, "=3", "=4", "=5")
		for n := 1; a.step() != "no step"; n++ {
			if a.Steps() != n || s.Gate().Pulse(2) != n {
				t.Fatalf("the manager %d, the step %d: Steps: %d, the pulse %d", manager, n, a.Steps(), s.Gate().Pulse(2))
			}
		}
		a.at(6, 0, 3, true)
		b.run()
		b.at(3, 0, 0, true)
		if b.Steps() != 3 || !slices.Equal(s.pulses(), []int{0, 3, a.Steps()}) {
			t.Errorf("the manager %d: pulses %v behind %d and %d steps", manager, s.pulses(), a.Steps(), b.Steps())
		}
		for range 10 {
			a.Step()
			b.Step()
		}
		if !slices.Equal(s.pulses(), []int{0, 3, a.Steps()}) {
			t.Errorf("the manager %d: pulses %v behind %d and %d steps", manager, s.pulses(), a.Steps(), b.Steps())
		}
	}
}

// P15.2: what is asked changes nothing, whenever and however often.
func TestAsked(t *testing.T) {
	for _, manager := range managers() {
		s, quiet := by(t, manager, 5, 6), by(t, manager, 5, 6)
		a, b := s.thread(0, "r0 w1", "r1 +1 w0"), quiet.thread(0, "r0 w1", "r1 +1 w0")
		for {
			for range 3 {
				a.Txn()
				a.Try()
				a.Commits()
				a.Steps()
				a.Done()
			}
			x, y := a.Step(), b.Step()
			if told := a.view().against(b.view()); x != y || told != "-" || a.Steps() != b.Steps() {
				t.Fatalf("the manager %d, behind %d steps: %s", manager, a.Steps(), told)
			}
			if !x {
				break
			}
		}
	}
}

// P15.2: tickets of 0: each transaction is refused, in one step, and there is nothing to leave, by any manager, even if one of the stamp 0 is the senior.
func TestNoTickets(t *testing.T) {
	for _, manager := range managers() {
		s := left(t, manager, 20, 0, 5)
		s.senior(0, 1)
		a := s.thread(1, "=7 w0", "r0", "=1")
		a.makes("refuse 1.0.0 5, txn: 1", "refuse 1.1.0 5, txn: 2")
		a.ends("refuse 1.2.0 5, txn: 3, done: true")
		a.at(3, 0, 0, true)
		s.values(5)
		s.sees(true, 0, 1)
	}
}

// P15.2: tickets that come to their end between two transactions: the first one is done, and those behind it are refused.
func TestTicketsEnd(t *testing.T) {
	for _, manager := range managers() {
		s := left(t, manager, 20, 1, 5)
		a := s.thread(0, "=7 w0", "=8 w0", "=9")
		a.till("commit 0.0.1")
		if manager == api.Greedy {
			a.makes("txn: 1, try: 0")
		}
		a.makes("refuse 0.1.0 5, txn: 2")
		a.ends("refuse 0.2.0 5, txn: 3, done: true")
		a.at(3, 0, 1, true)
		s.values(7)
		a.story("begin 0.0.1 0", "write 0.0.1 0 7", "commit 0.0.1", "refuse 0.1.0 5", "refuse 0.2.0 5")
	}
	// Another one takes the last of them between.
	s := left(t, api.Stamp, 20, 3, 5)
	a, b := s.thread(0, "=7 w0", "=8 w0", "=9 w0"), s.thread(1, "=1")
	a.till("commit 0.0.1")
	b.run()
	a.run()
	a.at(3, 0, 2, true)
	b.at(1, 0, 1, true)
	s.values(8)
	s.story("begin 0.0.1 0", "write 0.0.1 0 7", "commit 0.0.1", "begin 1.0.1 1", "commit 1.0.1",
		"begin 0.1.1 2", "write 0.1.1 0 8", "commit 0.1.1", "refuse 0.2.0 5")
}

// P15.2: a stamp is the ticket that its step took: others' tickets between leave their numbers out.
func TestStamps(t *testing.T) {
	for _, manager := range managers() {
		s := by(t, manager, 5)
		for range 3 {
			s.Tickets().Take()
		}
		a, b := s.thread(0, "=1", "=2"), s.thread(1, "=3", "=4")
		b.makes("tickets: 4")
		a.makes("tickets: 5", "descriptor 2: 0 0 1 4, begin 0.0.1 4, try: 1")
		s.Tickets().Take()
		a.till("commit 0.0.1")
		if manager == api.Greedy {
			a.quiet(1)
		}
		a.makes("tickets: 7", "descriptor 3: 0 1 1 6, begin 0.1.1 6, try: 1")
		b.makes("descriptor 4: 1 0 1 3, begin 1.0.1 3, try: 1")
	}
}

// room is what a thread of the transactions "=7 w0" and "=8" tells, with so many records left at first.
type room struct {
	records int
	story   []string
	steps   [4]int // by Polite, Karma, Stamp, Greedy
	commits int
}

// P15.2: an arena with just the room that is wanted, and with less: for no descriptor, no version, no locator, and none for the second transaction's descriptor.
func TestRoom(t *testing.T) {
	for _, q := range []room{
		{0, []string{"refuse 0.0.0 4", "refuse 0.1.0 4"}, [4]int{4, 4, 4, 6}, 0},
		{1, []string{"begin 0.0.1 0", "abort 0.0.1 4", "refuse 0.1.0 4"}, [4]int{8, 8, 8, 11}, 0},
		{2, []string{"begin 0.0.1 0", "abort 0.0.1 4", "refuse 0.1.0 4"}, [4]int{9, 9, 9, 12}, 0},
		{3, []string{"begin 0.0.1 0", "write 0.0.1 0 7", "commit 0.0.1", "refuse 0.1.0 4"}, [4]int{11, 12, 11, 14}, 1},
		{4, []string{"begin 0.0.1 0", "write 0.0.1 0 7", "commit 0.0.1", "begin 0.1.1 1", "commit 0.1.1"}, [4]int{13, 14, 13, 16}, 2},
	} {
		for i, manager := range managers() {
			s := left(t, manager, q.records, 9, 5)
			a := s.thread(0, "=7 w0", "=8")
			if n := a.run(); n != q.steps[i] || a.Steps() != n {
				t.Errorf("the manager %d, room for %d: %d steps", manager, q.records, n)
			}
			a.at(2, 0, q.commits, true)
			s.story(q.story...)
			want := int64(5)
			if q.commits > 0 {
				want = 7
			}
			s.values(want)
			if s.Arena().Left() != 0 || s.Tickets().Taken() != 2 {
				t.Errorf("room for %d is left, %d tickets are taken", s.Arena().Left(), s.Tickets().Taken())
			}
		}
	}
}

// P15.2: no room for a descriptor: what is noted, that Try stays 0, and that leave comes behind it by Greedy alone.
func TestNoDescriptor(t *testing.T) {
	for _, manager := range managers() {
		s := left(t, manager, 0, 9, 5)
		a := s.thread(2, "r0", "=1")
		s.senior(0, 2)
		a.makes("tickets: 1")
		if manager == api.Greedy {
			a.makes("refuse 2.0.0 4")
			a.at(0, 0, 0, false)
			a.makes("senior: false 0 0, txn: 1", "tickets: 2", "refuse 2.1.0 4")
			a.ends("txn: 2, done: true")
			continue
		}
		a.makes("refuse 2.0.0 4, txn: 1", "tickets: 2")
		a.ends("refuse 2.1.0 4, txn: 2, done: true")
		s.sees(true, 0, 2)
	}
}

// P15.2: no room for the version, or for the locator: the attempt is aborted for Memory, isn't tried again, and the next transaction takes its ticket.
func TestNoVersionNoLocator(t *testing.T) {
	for _, records := range []int{1, 2} {
		for _, manager := range managers() {
			s := left(t, manager, records, 9, 5)
			a := s.thread(0, "w0", "=1")
			a.makes("tickets: 1", "descriptor 2: 0 0 1 0, begin 0.0.1 0, try: 1")
			if manager == api.Greedy {
				a.makes("-")
			}
			a.makes("-")
			if records == 2 {
				a.makes("version 3: 0")
			}
			a.makes("-") // no room
			s.senior(0, 0)
			if manager == api.Greedy {
				a.makes("status 2: 3, abort 0.0.1 4")
				a.at(0, 1, 0, false)
				a.makes("senior: false 0 0, txn: 1, try: 0", "tickets: 2", "refuse 0.1.0 4")
				a.ends("txn: 2, done: true")
				continue
			}
			a.makes("status 2: 3, abort 0.0.1 4, txn: 1, try: 0", "tickets: 2")
			a.ends("refuse 0.1.0 4, txn: 2, done: true")
			s.sees(true, 0, 0)
		}
	}
}

// P15.2: no room for a second descriptor, behind an abort: the transaction ends; the number of its attempt at hand is that of the one that began.
func TestNoSecondDescriptor(t *testing.T) {
	for _, manager := range managers() {
		s := left(t, manager, 1, 9, 5)
		a := s.thread(1, "=7", "=8")
		a.makes("tickets: 1", "descriptor 2: 1 0 1 0, begin 1.0.1 0, try: 1")
		a.struck()
		a.makes("-", "abort 1.0.1 2")
		a.at(0, 1, 0, false)
		s.senior(0, 1)
		if manager == api.Greedy {
			a.makes("refuse 1.0.0 4")
			a.at(0, 1, 0, false)
			a.makes("senior: false 0 0, txn: 1, try: 0", "tickets: 2", "refuse 1.1.0 4")
			a.ends("txn: 2, done: true")
			continue
		}
		a.makes("refuse 1.0.0 4, txn: 1, try: 0", "tickets: 2")
		a.ends("refuse 1.1.0 4, txn: 2, done: true")
		s.sees(true, 0, 1)
	}
}

// P15.2: room that others take, and tickets and records that come to their end together: who gets no ticket isn't asked for room.
func TestBothEnd(t *testing.T) {
	for _, manager := range managers() {
		s := left(t, manager, 0, 1, 5)
		a := s.thread(0, "=7", "=8")
		a.run()
		s.story("refuse 0.0.0 4", "refuse 0.1.0 5")
		steps := 3
		if manager == api.Greedy {
			steps = 4
		}
		if a.Steps() != steps || a.Commits() != 0 {
			t.Errorf("the manager %d: %d steps, %d commits", manager, a.Steps(), a.Commits())
		}
	}
	s := left(t, api.Polite, 1, 9, 5)
	a := s.thread(0, "=7")
	a.makes("tickets: 1")
	s.Table().Begin(1, 0, 1, 9, 0)
	a.ends("refuse 0.0.0 4, txn: 1, done: true")
}
