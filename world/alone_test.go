package world_test

import (
	"math"
	"slices"
	"testing"

	"quarrel/api"
	"quarrel/crowd"
)

// P21.2: by hand: alone by Polite, the first transaction takes nine steps, the second one ten, as it asks for an owner's status.
func TestAloneByHand(t *testing.T) {
	l := by(api.Polite, []int{0, 0}, "=5 w0/=7 w0", "=9 w1")
	s := opened(t, l)
	s.made(s.Alone(0), 19)
	s.values(7, 6)
	s.made(s.Alone(0), 0)
	s.made(s.Alone(1), 9)
	s.values(7, 9)
	s.at(0, 2)
	s = opened(t, l)
	s.comes(2, 2)
	s.made(s.Alone(0), 17)
	s.at(2, 0)
	s.values(7, 6)
}

// P21.2: by hand: Txns stops just where the transaction ended; the same of the next one, and of the rest of one that is on its way.
func TestTxnsByHand(t *testing.T) {
	l := by(api.Polite, []int{0, 0, 0, 0}, "=5 w0/=7 w0/=8 w0", "=9 w1")
	s := opened(t, l)
	s.made(s.Txns(0, 0), 0)
	s.values(5, 6)
	s.made(s.Txns(0, 1), 9)
	s.values(5, 6)
	if n := s.Crowd().Thread(0).Txn(); n != 1 {
		t.Errorf("the transaction at hand is %d", n)
	}
	s.comes(4, 4)
	s.made(s.Txns(0, 1), 6)
	s.values(7, 6)
	s.made(s.Txns(0, 1), 10)
	s.values(8, 6)
	s.made(s.Txns(0, 1), 0)
	s.made(s.Txns(1, math.MaxInt), 9)
	s.values(8, 9)
	s = opened(t, l)
	s.made(s.Txns(0, 2), 19)
	s.values(7, 6)
	s.made(s.Txns(0, 2), 10)
	s.values(8, 6)
	s = opened(t, l)
	s.made(s.Txns(0, 3), 29)
	s = opened(t, l)
	s.made(s.Txns(0, 4), 29)
}

// P21.2: by one who marks, a transaction ends when it is left: one step later than it committed.
func TestTxnsOfOneWhoMarks(t *testing.T) {
	s := opened(t, by(api.Greedy, nil, "=5 w0/=7 w0"))
	if !s.Crowd().Floor().Manager().Marks() {
		t.Fatal("Greedy doesn't mark")
	}
	first := s.Txns(0, 1)
	if c := s.Crowd(); c.Commits() != 1 || c.Thread(0).Txn() != 1 || c.Steps() != first {
		t.Errorf("%d commits, the transaction %d, %d steps of %d", c.Commits(), c.Thread(0).Txn(), c.Steps(), first)
	}
	again := opened(t, by(api.Greedy, slices.Repeat([]int{0}, first-1), "=5 w0/=7 w0"))
	again.comes(first, first-1)
	if c := again.Crowd(); c.Commits() != 1 || c.Thread(0).Txn() != 0 {
		t.Errorf("ahead of the last step: %d commits, the transaction %d", c.Commits(), c.Thread(0).Txn())
	}
	again.made(again.Txns(0, 1), 1)
}

// P21.2: from each place on, Alone picks the thread till it is done: one that didn't begin, that is on its way, that is done; while others stand on their way. The script's picks go on behind it as if nothing had been.
func TestAlone(t *testing.T) {
	for _, l := range several() {
		most := len(l.Picks)
		for ahead := 0; ahead <= most; ahead += 1 + most/17 {
			for no := range l.C.Threads {
				s, c := opened(t, l), plain(t, l)
				s.comes(ahead, ahead)
				c.Run(l.Picks[:ahead]...)
				want := goesAlone(c, no)
				s.made(s.Alone(no), want)
				s.at(ahead, most-ahead)
				s.is(c, "behind Alone")
				if !s.Crowd().Thread(no).Done() {
					t.Errorf("the thread %d isn't done", no)
				}
				s.made(s.Alone(no), 0)
				s.comes(math.MaxInt, most-ahead)
				c.Run(l.Picks[ahead:]...)
				if s.is(c, "the picks behind Alone"); t.Failed() {
					t.Fatalf("%+v: %d picks, then %d alone", l, ahead, no)
				}
			}
		}
	}
}

// P21.2: from each place on, Txns picks the thread till n transactions more ended, or it is done: 0, 1, as many as are left, one more, the greatest int. The script's picks go on behind it as if nothing had been.
func TestTxns(t *testing.T) {
	for _, l := range several() {
		most := len(l.Picks)
		for ahead := 0; ahead <= most; ahead += 1 + most/17 {
			for no := range l.C.Threads {
				for _, n := range []int{0, 1, 2, 3, 4, math.MaxInt - 1, math.MaxInt} {
					s, c := opened(t, l), plain(t, l)
					s.comes(ahead, ahead)
					c.Run(l.Picks[:ahead]...)
					txn := c.Thread(no).Txn()
					s.made(s.Txns(no, n), goesTxns(c, no, n))
					s.at(ahead, most-ahead)
					s.is(c, "behind Txns")
					if got, want := s.Crowd().Thread(no).Txn()-txn, min(n, len(l.All[no])-txn); got != want {
						t.Errorf("%d transactions more ended, not %d", got, want)
					}
					s.comes(math.MaxInt, most-ahead)
					c.Run(l.Picks[ahead:]...)
					if s.is(c, "the picks behind Txns"); t.Failed() {
						t.Fatalf("%+v: %d picks, then %d of the thread %d", l, ahead, n, no)
					}
				}
			}
		}
	}
}

// P21.2: Alone and Txns between any two picks don't count as picks, and the script's next pick comes next.
func TestBetweenPicks(t *testing.T) {
	for _, l := range several() {
		s, c := opened(t, l), plain(t, l)
		for i, no := range l.Picks {
			switch i % 4 {
			case 0:
				other := i / 4 % (l.C.Threads + 1)
				s.made(s.Txns(other, 1), goesTxns(c, other, 1))
			case 1:
				s.made(s.Alone(l.C.Threads), 0)
			case 2:
				s.made(s.Txns(0, 0), 0)
			default:
				if i > len(l.Picks)/2 {
					s.made(s.Alone(i%l.C.Threads), goesAlone(c, i%l.C.Threads))
				}
			}
			s.at(i, len(l.Picks)-i)
			if !s.Next() {
				t.Fatalf("%+v: Next, behind %d picks: false", l, i)
			}
			c.Pick(no)
			s.at(i+1, len(l.Picks)-i-1)
			s.is(c, "between picks")
		}
		if s.Next() {
			t.Errorf("Next behind the last pick: true")
		}
		for no := range l.C.Threads {
			s.made(s.Alone(no), goesAlone(c, no))
		}
		s.at(len(l.Picks), 0)
		s.is(c, "all are done")
	}
}

// P21.2: one goes alone while another one stands on its way and holds what it wants: nobody else makes a step, and the other one goes on behind it.
func TestAloneWhileAnotherStands(t *testing.T) {
	for _, manager := range managers() {
		for stands := range 12 {
			s := opened(t, by(manager, slices.Repeat([]int{0}, stands), "=11 w0 w1", "r0 +1 w0/r1 +1 w1"))
			s.comes(stands, stands)
			n := s.Alone(1)
			if c := s.Crowd(); n == 0 || !c.Thread(1).Done() || c.Thread(1).Commits() != 2 || c.Thread(1).Steps() != n || c.Thread(0).Steps() != stands {
				t.Errorf("the manager %d, behind %d picks: %d steps; the threads made %d and %d", manager, stands, n, c.Thread(0).Steps(), c.Thread(1).Steps())
			}
			s.made(s.Alone(1), 0)
			if s.Crowd().Thread(0).Done() {
				continue
			}
			if s.Alone(0); s.Crowd().Thread(0).Commits() != 1 {
				t.Errorf("the manager %d, behind %d picks: the other one didn't commit", manager, stands)
			}
			s.values(11, 11)
			s.at(stands, 0)
		}
	}
}

// P21.2: many steps alone: five hold what the sixth one wants, and each is waited for as long as may be.
func TestAloneForLong(t *testing.T) {
	longest := 0
	for _, manager := range managers() {
		l := by(manager, nil, "=10 w0", "=11 w1", "=12 w2", "=13 w3", "=14 w4", "r0 r1 r2 r3 r4 +1 w0 w5/r5 w4/w3/w2/w1/w0")
		l.C.Objects, l.C.Wait, l.First, l.Draws = 6, 64, []int64{0, 1, 2, 3, 4, 5}, []byte{255}
		c := plain(t, l)
		for no := range 5 {
			for writes(c) == no {
				c.Pick(no)
				l.Picks = append(l.Picks, no)
			}
		}
		s := opened(t, l)
		s.comes(len(l.Picks), len(l.Picks))
		want := goesAlone(c, 5)
		s.made(s.Alone(5), want)
		s.is(c, "for long")
		longest = max(longest, want)
	}
	if longest < 600 {
		t.Errorf("%d steps at most: too few to tell", longest)
	}
}

// writes is how often something was written.
func writes(c *crowd.Crowd) int {
	n := 0
	for _, e := range c.Floor().Trace() {
		if e.Kind == api.EvWrite {
			n++
		}
	}
	return n
}

// P21.2: transactions that are refused, or aborted for want of room, ended too: Txns counts them.
func TestTxnsWithoutTicketsOrRoom(t *testing.T) {
	for _, manager := range managers() {
		l := by(manager, nil, "=1 w0/=2 w0/=3 w0", "=4 w1")
		l.C.Tickets = 0
		s := opened(t, l)
		s.made(s.Txns(0, 1), 1)
		s.made(s.Txns(0, 2), 2)
		s.made(s.Txns(0, 1), 0)
		s.made(s.Alone(1), 1)
		s.values(5, 6)
		if n := len(s.Trace()); n != 4 || s.Crowd().Commits() != 0 {
			t.Errorf("the trace %v", s.Trace())
		}
		l.C.Tickets, l.C.Records = 9, 4
		s = opened(t, l)
		s.Txns(0, 2)
		if n := s.Crowd().Thread(0).Txn(); n != 2 {
			t.Errorf("the manager %d, without room: the transaction %d", manager, n)
		}
		s.Txns(0, 1)
		s.Alone(1)
		if c := s.Crowd(); len(c.Unfinished()) != 0 || c.Commits() != 0 {
			t.Errorf("the manager %d, without room: %v aren't done, %d commits", manager, c.Unfinished(), c.Commits())
		}
		s.values(5, 6)
	}
}

// P21.2: of a thread that there is not, or that has no transactions, no step is made, whatever n is; nor of n below 1, of any thread. Nothing changes by it.
func TestAloneOfNoThread(t *testing.T) {
	for _, l := range several() {
		for _, ahead := range []int{0, len(l.Picks) / 2, len(l.Picks)} {
			s := opened(t, l)
			s.comes(ahead, ahead)
			before := s.told()
			for _, no := range numbers() {
				there := no >= 0 && no < l.C.Threads
				if !there || len(l.All[no]) == 0 {
					s.made(s.Alone(no), 0)
				}
				for _, n := range numbers() {
					if !there || len(l.All[no]) == 0 || n < 1 {
						s.made(s.Txns(no, n), 0)
					}
				}
			}
			s.same(before, "no thread, or no transaction")
		}
	}
}

// P21.2: the first and the last one of as many threads as there may be.
func TestAloneOfEachThread(t *testing.T) {
	for _, manager := range managers() {
		l := by(manager, nil, "=1 w0", "=2 w0", "=3 w0", "=4 w0", "=5 w0", "=6 w0")
		for no := range 6 {
			s := opened(t, l)
			if n := s.Alone(no); n == 0 || n != s.Crowd().Thread(no).Steps() || n != s.Crowd().Steps() {
				t.Errorf("the thread %d made %d steps", no, n)
			}
			s.values(int64(no+1), 6)
			s.made(s.Alone(-1), 0)
			s.made(s.Alone(6), 0)
		}
	}
}
