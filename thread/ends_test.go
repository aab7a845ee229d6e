package thread_test

import (
	"fmt"
	"slices"
	"testing"

	"quarrel/api"
)

// P15.2: aborted for Invalid: it begins again, as the attempt 2, with the stamp that it had, and commits by what is there now.
func TestInvalid(t *testing.T) {
	for _, manager := range managers() {
		s := by(t, manager, 5, 6)
		a, b := s.thread(0, "r0 r1 +1 w1"), s.thread(1, "=7 w0")
		b.makes("tickets: 1")
		a.till("read 0.0.1 0 5")
		b.run()
		a.till("abort 0.0.1 1")
		a.at(0, 1, 0, false)
		raised := 0
		if manager == api.Karma { // once behind each of the two that it opened
			raised = 2
		}
		begun := a.step()
		id := a.mine()
		want := fmt.Sprintf("descriptor %d: 0 0 2 1", id)
		if raised > 0 {
			want += fmt.Sprintf(", priority %d: %d", id, raised)
		}
		if begun != want+", begin 0.0.2 1, try: 2" {
			t.Errorf("the manager %d: %s", manager, begun)
		}
		a.run()
		a.at(1, 0, 1, true)
		s.values(7, 7)
	}
}

// P15.2: aborted for Enemy, again and again: attempts 1, 2, 3 and so on, by one stamp, till it commits.
func TestEnemy(t *testing.T) {
	for _, manager := range managers() {
		s := by(t, manager, 5)
		a := s.thread(0, "=7 w0", "=8 w0")
		a.makes("tickets: 1")
		var want []string
		for try := 1; try <= 5; try++ {
			a.at(0, try-1, 0, false)
			a.till(fmt.Sprintf("begin 0.0.%d 0", try))
			a.at(0, try, 0, false)
			a.struck()
			a.till(fmt.Sprintf("abort 0.0.%d 2", try))
			a.at(0, try, 0, false)
			want = append(want, fmt.Sprintf("begin 0.0.%d 0", try), fmt.Sprintf("abort 0.0.%d 2", try))
		}
		s.values(5)
		a.run()
		a.at(2, 0, 2, true)
		s.values(8)
		s.story(append(want, "begin 0.0.6 0", "write 0.0.6 0 7", "commit 0.0.6", "begin 0.1.1 1", "write 0.1.1 0 8", "commit 0.1.1")...)
	}
}

// P15.2: aborted at the last moment, ahead of the commit: that is no commit, and it begins again.
func TestStruckAheadOfTheCommit(t *testing.T) {
	for _, manager := range managers() {
		s := by(t, manager, 5)
		a := s.thread(0, "=7 w0")
		a.till("write 0.0.1 0 7")
		a.struck()
		a.makes("abort 0.0.1 2")
		a.at(0, 1, 0, false)
		s.values(5)
		a.run()
		a.at(1, 0, 1, true)
		s.values(7)
	}
}

// P15.2: aborted for Memory, where another one aborted it ahead of that: then it is for Enemy, and it begins again, if there is room.
func TestEnemyAheadOfMemory(t *testing.T) {
	for _, manager := range managers() {
		s := left(t, manager, 1, 9, 5)
		a := s.thread(0, "w0")
		gate, leave := 0, 0
		if manager == api.Greedy {
			gate, leave = 1, 1
		}
		a.quiet(2 + gate + 2) // ticket, begin, gate, load, version: no room
		a.struck()
		a.makes("abort 0.0.1 2")
		a.at(0, 1, 0, false)
		a.quiet(1)
		a.quiet(leave)
		a.at(1, 0, 0, true)
		s.story("begin 0.0.1 0", "abort 0.0.1 2", "refuse 0.0.0 4")
	}
}

// P15.2: aborted for Self: it begins again, with what it remembers of its foe: it doesn't give way once more in this transaction, but in the next one.
func TestSelf(t *testing.T) {
	s := by(t, api.Stamp, 5, 6)
	foe := s.foe(1, 0, 0, 0) // the records 4, 5, 6
	s.Tickets().Take()
	a := s.thread(0, "r0", "r0")
	a.makes("tickets: 2", "descriptor 7: 0 0 1 1, begin 0.0.1 1, try: 1")
	for range 3 {
		a.makes(dashes(2 + 1 + 3)...) // load, status; foe; a quarter of 8, and 1
	}
	a.makes("-", "-", "-", "status 7: 3, abort 0.0.1 3")
	a.at(0, 1, 0, false)
	a.makes("descriptor 8: 0 0 2 1, begin 0.0.2 1, try: 2")
	a.makes("-", "-", "-", fmt.Sprintf("status %d: 3", foe)) // met five times by now
	a.till("commit 0.0.2")
	a.at(1, 0, 1, false)

	// The next transaction gives way once, too: what it remembers is fresh.
	s.foe(1, 0, 0, 0)
	a.makes("tickets: 3")
	a.till("begin 0.1.1 2")
	for range 3 {
		a.makes(dashes(6)...)
	}
	a.quiet(3)
	a.till("abort 0.1.1 3")
	a.run()
	a.at(2, 0, 2, true)
}

// P15.2: that it gave way is remembered by the next attempt where it meets another foe, too: it waits three times, and aborts that one.
func TestGaveWay(t *testing.T) {
	s := by(t, api.Stamp, 5, 6)
	foe := s.foe(1, 0, 0, 0)
	other := s.foe(2, 0, 0, 1)
	s.Tickets().Take()
	a := s.thread(0, "r0 r1")
	a.till("abort 0.0.1 3")
	if !s.Table().Turn(foe, api.Aborted) {
		t.Fatal("Turn: false")
	}
	a.till("read 0.0.2 0 5")
	for range 3 {
		a.makes(dashes(6)...)
	}
	a.makes("-", "-", "-", fmt.Sprintf("status %d: 3", other))
	a.run()
	a.at(1, 0, 1, true)
	s.values(5, 6)
}

// P15.2: Karma's priority is how often the transaction raised, in all its attempts; the next transaction begins with 0.
func TestPriority(t *testing.T) {
	s := by(t, api.Karma, 5, 6)
	a := s.thread(0, "r0 r1 w0", "r0")
	raised := 0
	for try := 1; try <= 4; try++ {
		a.till(fmt.Sprintf("begin 0.0.%d 0", try))
		if n := s.Table().Priority(a.mine()); n != raised {
			t.Errorf("the attempt %d: the priority %d, not %d", try, n, raised)
		}
		a.till(fmt.Sprintf("read 0.0.%d 0 5", try))
		if try > 1 {
			a.till(fmt.Sprintf("read 0.0.%d 1 6", try))
			raised++
		}
		raised++
		if n := s.Table().Priority(a.mine()); n != raised {
			t.Errorf("the attempt %d: the priority %d, not %d", try, n, raised)
		}
		a.struck()
		a.till(fmt.Sprintf("abort 0.0.%d 2", try))
		raised++ // an object is opened behind that all the same: what the step tries doesn't play a part
	}
	a.till("begin 0.0.5 0")
	if n := s.Table().Priority(a.mine()); n != raised {
		t.Errorf("the priority %d, not %d", n, raised)
	}
	a.till("begin 0.1.1 1")
	if n := s.Table().Priority(a.mine()); n != 0 {
		t.Errorf("the next transaction's priority: %d", n)
	}
	// By the other managers there are none.
	for _, manager := range []int{api.Polite, api.Stamp, api.Greedy} {
		s := by(t, manager, 5)
		a := s.thread(0, "r0 w0")
		a.till("read 0.0.1 0 5")
		a.struck()
		a.till("begin 0.0.2 0")
		if n := s.Table().Priority(a.mine()); n != 0 {
			t.Errorf("the manager %d: the priority %d", manager, n)
		}
	}
}

// P15.2: a transaction that was aborted is troubled: in its next attempt it becomes the senior, at its first opening, and leaves at its end; the next transaction isn't troubled.
func TestSenior(t *testing.T) {
	s := by(t, api.Greedy, 5)
	s.Tickets().Take()
	a := s.thread(2, "=7 w0", "=8 w0")
	a.makes("tickets: 2", "descriptor 2: 2 0 1 1, begin 2.0.1 1, try: 1", "-", "-", "-") // gate and load: it isn't troubled
	a.struck()
	a.till("abort 2.0.1 2")
	s.sees(false, 0, 0)
	a.quiet(1)
	a.at(0, 2, 0, false)
	a.makes("-", "-", "senior: true 1 2", "-", "-") // set, gate, swap, gate, load
	a.till("commit 2.0.2")
	s.sees(true, 1, 2)
	a.makes("senior: false 0 0, txn: 1, try: 0")
	a.makes("tickets: 3")
	a.quiet(2)        // begin, set
	a.makes("-", "-") // gate and load
	a.till("commit 2.1.1")
	s.sees(false, 0, 0)
	a.ends("txn: 2, try: 0, done: true")
	s.values(8)
}

// P15.2: leave is a step also where there is no senior, or another one is: that one stays.
func TestLeave(t *testing.T) {
	for _, other := range [][2]int{{0, 0}, {1, 1}, {1, 2}, {0, 1}, {9, 0}} {
		s := by(t, api.Greedy, 5)
		a := s.thread(0, "=7")
		a.till("commit 0.0.1")
		s.senior(other[0], other[1])
		if other == [2]int{0, 0} {
			a.ends("senior: false 0 0, txn: 1, try: 0, done: true")
			s.sees(false, 0, 0)
			continue
		}
		a.ends("txn: 1, try: 0, done: true")
		s.sees(true, other[0], other[1])
	}
}

// P15.2: by those that don't mark there is no leave: a senior that there is stays, even if it is of that stamp and thread.
func TestNoLeave(t *testing.T) {
	for _, manager := range []int{api.Polite, api.Karma, api.Stamp} {
		s := by(t, manager, 5)
		s.senior(0, 0)
		a := s.thread(0, "=7 w0")
		a.till("commit 0.0.1")
		a.at(1, 0, 1, true)
		a.ended()
		s.sees(true, 0, 0)
	}
}

// P15.2: what is remembered of the gate counts on in the next attempt: an elder senior whose pulse stands is stayed behind for wait looks at most in all; a new transaction stays again.
func TestGateRemembered(t *testing.T) {
	c := config(api.Greedy, 1)
	c.Wait = 2
	s := on(t, c, 5)
	s.Tickets().Take()
	s.senior(0, 1)
	a := s.thread(0, "r0", "r0")
	a.quiet(2)
	a.makes("-", "-") // gate: Stay, twice; then Go
	a.makes("-", "-") // gate, load
	a.struck()
	a.makes("abort 0.0.1 2")
	a.quiet(1)
	a.makes("-", "-", "read 0.0.2 0 5") // gate: Go at once; load; alive
	a.till("commit 0.0.2")
	a.makes("txn: 1, try: 0", "tickets: 3")
	a.quiet(1)
	a.makes(dashes(2 + 1 + 2)...) // gate: Stay, twice, and Go; load; status of who claimed it
	a.makes("read 0.1.1 0 5")
	a.till("commit 0.1.1")
	a.ends("txn: 2, try: 0, done: true")
	s.sees(true, 0, 1)
}

// P15.2: one senior and one that waits for it: the elder thread goes first, and the other one behind that, by the elder one's leave.
func TestBehindTheSenior(t *testing.T) {
	c := config(api.Greedy, 1)
	c.Wait = 64
	s := on(t, c, 5)
	a, b := s.thread(0, "=7 w0"), s.thread(1, "r0 +1 w0")
	a.makes("tickets: 1")
	a.till("begin 0.0.1 0")
	a.struck()
	a.till("begin 0.0.2 0")
	a.makes("-", "-", "senior: true 0 0")
	b.quiet(2)
	for range 3 {
		b.makes("-") // gate: Stay
		a.quiet(1)
	}
	a.till("commit 0.0.2")
	b.makes("-")
	a.makes("senior: false 0 0, txn: 1, try: 0, done: true")
	b.makes("-", "-", "-", "read 1.0.1 0 7") // gate, load, status, alive
	b.run()
	b.at(1, 0, 1, true)
	s.values(8)
}

// P15.2: aborted for Memory: it isn't begun again, whatever it was aborted for ahead of that.
func TestMemory(t *testing.T) {
	for _, manager := range managers() {
		s := left(t, manager, 4, 9, 5)
		a := s.thread(1, "w0 w0", "=7", "=8")
		a.till("begin 1.0.1 0")
		a.struck()
		a.till("abort 1.0.1 2") // a descriptor, a version and a locator are gone
		a.till("begin 1.0.2 0")
		a.at(0, 2, 0, false)
		a.till("abort 1.0.2 4")
		a.run()
		a.at(3, 0, 0, true)
		s.story("begin 1.0.1 0", "abort 1.0.1 2", "begin 1.0.2 0", "abort 1.0.2 4", "refuse 1.1.0 4", "refuse 1.2.0 4")
		if n := s.Tickets().Taken(); n != 3 {
			t.Errorf("%d tickets", n)
		}
		s.values(5)
	}
}

// P15.2: two threads that get into each other's way, each adding 1 to one object: 7 at the end, by any manager, whoever goes ahead how far.
func TestTwo(t *testing.T) {
	for _, manager := range managers() {
		for i := range 16 {
			for j := range 16 {
				s := by(t, manager, 5)
				a, b := s.thread(0, "r0 +1 w0"), s.thread(1, "r0 +1 w0")
				for range i {
					a.Step()
				}
				for range j {
					b.Step()
				}
				for n := 0; !a.Done() || !b.Done(); n++ {
					if n > 2000 {
						t.Fatalf("the manager %d, %d and %d: they don't end", manager, i, j)
					}
					a.Step()
					b.Step()
				}
				a.at(1, 0, 1, true)
				b.at(1, 0, 1, true)
				s.values(7)
				s.sees(false, 0, 0)
			}
		}
	}
}

// P15.2: threads of one number have one pulse, and are told apart by their descriptors alone.
func TestTwoOfOneNumber(t *testing.T) {
	s := by(t, api.Polite, 5)
	a, b := s.thread(1, "=7 w0"), s.thread(1, "r0 +1 w0")
	a.run()
	b.run()
	if n := s.Gate().Pulse(1); n != a.Steps()+b.Steps() {
		t.Errorf("the pulse %d, of %d and %d", n, a.Steps(), b.Steps())
	}
	s.values(8)
}

// P15.2: threads on two floors have nothing to do with each other.
func TestTwoFloors(t *testing.T) {
	s, other := by(t, api.Karma, 5), by(t, api.Karma, 5)
	a, b := s.thread(0, "=7 w0"), other.thread(0, "r0 +1 w0")
	for a.Step() || b.Step() {
	}
	s.values(7)
	other.values(6)
	if !slices.Equal(s.pulses(), []int{a.Steps(), 0, 0}) || !slices.Equal(other.pulses(), []int{b.Steps(), 0, 0}) {
		t.Errorf("pulses: %v, %v", s.pulses(), other.pulses())
	}
}
