package crowd_test

import (
	"slices"
	"testing"

	"quarrel/api"
)

// P16.2, P16.3: without tickets each transaction is refused by one step; none commits, and all threads are done.
func TestNoTickets(t *testing.T) {
	for _, manager := range managers() {
		l := by(manager, "r0/w1", "", "=5 w0/=6/=7")
		l.c.Tickets = 0
		s := l.crowd(t)
		s.made(s.Rounds(1), 2)
		s.at(2, 0, 0, 2)
		s.made(s.Rounds(1), 2)
		s.at(4, 0, 2)
		s.made(s.Rounds(100), 1)
		s.at(5, 0)
		s.values(5, 6)
		var want []api.Event
		for _, of := range [][2]int{{0, 0}, {2, 0}, {0, 1}, {2, 1}, {2, 2}} {
			want = append(want, api.Event{Kind: api.EvRefuse, Thread: of[0], Txn: of[1], Reason: 5})
		}
		if l := s.Floor().Trace(); !slices.Equal(l, want) {
			t.Errorf("Trace: %v", l)
		}
		s.over()
	}
}

// P16.2, P16.3: few tickets: who comes first has them; who gets none is done.
func TestFewTickets(t *testing.T) {
	l := by(api.Polite, "=5", "=6", "=7")
	l.c.Tickets = 2
	s := l.crowd(t)
	s.made(s.Rounds(1), 3)
	s.at(3, 0, 0, 1)
	s.made(s.Rounds(100), 6)
	s.at(9, 2)
	s.over()
	s = l.crowd(t)
	s.made(s.Run(2, 1, 0), 3)
	s.at(3, 0, 1, 2)
	s.made(s.Rounds(100), 6)
	s.at(9, 2)
}

// P16.2, P16.3: without room for a descriptor no attempt begins: a ticket, a begin that is refused, and Greedy's leave.
func TestNoRoomForAttempts(t *testing.T) {
	for _, manager := range managers() {
		each := 2
		if manager == api.Greedy {
			each = 3
		}
		l := by(manager, "w0", "r1/=4")
		l.c.Records = 4
		s := l.crowd(t)
		s.made(s.Rounds(each-1), 2*(each-1))
		s.at(2*(each-1), 0, 0, 1)
		s.made(s.Rounds(1), 2)
		s.at(2*each, 0, 1)
		s.made(s.Rounds(100), each)
		s.at(3*each, 0)
		s.values(5, 6)
		if l := s.Floor().Trace(); len(l) != 3 || l[0] != (api.Event{Kind: api.EvRefuse, Reason: 4}) || l[2] != (api.Event{Kind: api.EvRefuse, Thread: 1, Txn: 1, Reason: 4}) {
			t.Errorf("Trace: %v", l)
		}
		s.over()
	}
}

// P16.2, P16.3: with little room transactions end for want of it, and the threads go on to the next ones.
func TestLittleRoom(t *testing.T) {
	l := by(api.Polite, "=5 w0/=1", "=6 w1", "=9")
	l.c.Records = 4 + 2
	s := l.crowd(t)
	s.made(s.Rounds(2), 6) // tickets and begins, the last of which is refused
	s.at(6, 0, 0, 1)
	s.made(s.Rounds(4), 8) // the sums, loads, versions for which there is no room, and aborts
	s.at(14, 0, 0)
	s.made(s.Rounds(100), 2)
	s.at(16, 0)
	s.values(5, 6)
	want := []api.Event{
		{Kind: api.EvBegin, Attempt: 1},
		{Kind: api.EvBegin, Thread: 1, Attempt: 1, Val: 1},
		{Kind: api.EvRefuse, Thread: 2, Reason: 4},
		{Kind: api.EvAbort, Attempt: 1, Reason: api.Memory},
		{Kind: api.EvAbort, Thread: 1, Attempt: 1, Reason: api.Memory},
		{Kind: api.EvRefuse, Txn: 1, Reason: 4},
	}
	if l := s.Floor().Trace(); !slices.Equal(l, want) {
		t.Errorf("Trace: %v", l)
	}
	s.over()
}

// ended is how often a transaction committed, or was refused, or wanted for room.
func (s scene) ended(no, txn int) int {
	n := 0
	for _, e := range s.Floor().Trace() {
		if e.Thread != no || e.Txn != txn {
			continue
		}
		if e.Kind == api.EvCommit || e.Kind == api.EvRefuse || e.Kind == api.EvAbort && e.Reason == api.Memory {
			n++
		}
	}
	return n
}

// P16.2, P16.3: of any room and any number of tickets, by each manager: rounds end, as each transaction ends, once.
func TestAnyRoomAndTickets(t *testing.T) {
	for _, manager := range managers() {
		for records := 4; records < 60; records++ {
			for tickets := range 7 {
				l := by(manager, "r0 +1 w0/=3", "r0 w1 w0/r1 +2 w1", "r1 r0 w1")
				l.c.Records, l.c.Tickets = records, tickets
				s := l.crowd(t)
				n := s.Rounds(100_000)
				s.at(n, s.Commits())
				s.over()
				s.inOrder(l)
				for no, txns := range l.all {
					for txn := range txns {
						if n := s.ended(no, txn); n != 1 {
							t.Errorf("the manager %d, %d records, %d tickets: the transaction %d of %d ended %d times", manager, records, tickets, txn, no, n)
						}
					}
				}
				if s.Commits() > tickets || s.Floor().Tickets().Taken() != min(tickets, 5) {
					t.Errorf("%d tickets: %d taken, %d commits", tickets, s.Floor().Tickets().Taken(), s.Commits())
				}
			}
		}
	}
}

// P16.2: what goes on in turn for long, as each is in the other's way, ends when the room does, and the rounds with it.
func TestInTurnTillTheRoomEnds(t *testing.T) {
	l := by(api.Polite, "r0 +1 w0/r1 w0", "=9 w1 r0 w0/=4 w0", "r0 r1 x0 w1")
	l.c.Records = 4096
	s := l.crowd(t)
	s.Run(0, 1, 1, 2, 0, 1, 1)
	n := s.Rounds(1000)
	if l := s.Unfinished(); len(l) < 2 || n < 2000 {
		t.Errorf("%d steps, unfinished: %v: they don't get into each other's way for long", n, l)
	}
	s.made(s.Rounds(100_000)+n+7, s.Steps())
	s.over()
	if s.Floor().Arena().Left() != 0 {
		t.Errorf("room for %d is left", s.Floor().Arena().Left())
	}
}
