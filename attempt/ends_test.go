package attempt_test

import (
	"fmt"
	"slices"
	"testing"

	"quarrel/api"
	"quarrel/attempt"
)

// transactions are some, of two objects, of each kind of operation.
func transactions() []string {
	return []string{
		"=5", "+5 -3", "x0", "r0", "w0", "r1 r1", "w0 w0", "w1 r1", "r0 w0", "r0 +1 w0", "r0 w1", "r0 r1 w0", "r0 x0 w1", "r0 x0 r0",
		"r0 w0 x0 r0", "r0 r1", "r1 r0 x1", "w0 w1", "=7 w0 +1 w0 r0", "r0 +1 w0 r1 +2 w1", "r0 r1 x0 x1 w0 w1", "=1 =2 +3 w1 x1 x0 r1 r0",
	}
}

// P14.3: an attempt alone commits, by each manager, and leaves the values that its transaction leaves alone.
func TestAlone(t *testing.T) {
	for _, manager := range managers() {
		for _, words := range transactions() {
			first := []int64{5, -6}
			s := by(t, manager, first...)
			a := s.begin(0, words)
			a.run()
			a.is(api.Committed, 0)
			a.values(alone(t, ops(words), first)...)
			if s.Table().Status(a.id) != api.Committed {
				t.Errorf("%s: its descriptor is %d", words, s.Table().Status(a.id))
			}
		}
	}
}

// lists are all lists of so many operations on two objects.
func lists(n int) [][]api.Op {
	if n == 0 {
		return [][]api.Op{nil}
	}
	var all [][]api.Op
	for _, l := range lists(n - 1) {
		for _, w := range []string{"r0", "r1", "w0", "w1", "x0", "x1", "=9", "+2"} {
			all = append(all, append(slices.Clone(l), ops(w)...))
		}
	}
	return all
}

// P14.3: so do all transactions of up to four operations.
func TestAllShortOnesAlone(t *testing.T) {
	for n := 1; n <= 4; n++ {
		for _, l := range lists(n) {
			for _, manager := range managers() {
				first := []int64{5, -6}
				s := by(t, manager, first...)
				id := s.descriptor(0, 0, 1, 1, 0)
				a, e := attempt.Begin(s.Floor, 0, 0, 1, id, 1, l, attempt.Fresh())
				if e != api.OK {
					t.Fatalf("Begin of %v: error %d", l, e)
				}
				for n := 0; a.Step(); n++ {
					if n > 100 {
						t.Fatalf("%v doesn't end", l)
					}
				}
				if status, _ := a.Status(); status != api.Committed || !slices.Equal(s.Values(), alone(t, l, first)) {
					t.Fatalf("the manager %d, %v: %d, %v", manager, l, status, s.Values())
				}
			}
		}
	}
}

// P14.2: how many steps a transaction takes alone, by each manager, and how many records.
func TestStepsAlone(t *testing.T) {
	for _, q := range []struct {
		words   string
		steps   [4]int // by Polite, Karma, Stamp, Greedy
		records int
	}{
		{"=5", [4]int{2, 2, 2, 2}, 0},
		{"x0", [4]int{2, 2, 2, 2}, 0},
		{"=5 +5 =5 +5 =5 +5 =5 +5", [4]int{9, 9, 9, 9}, 0},
		{"r0", [4]int{6, 7, 6, 8}, 1},
		{"r0 r0", [4]int{7, 8, 7, 9}, 1},
		{"r0 x0", [4]int{4, 5, 4, 5}, 0},
		{"w0", [4]int{6, 7, 6, 7}, 2},
		{"r0 w0", [4]int{8, 10, 8, 10}, 2},
		{"r0 +1 w0", [4]int{9, 11, 9, 11}, 2},
		{"w0 w0", [4]int{11, 13, 11, 13}, 4},
		{"w0 r0", [4]int{7, 8, 7, 8}, 2},
		{"r0 r1", [4]int{12, 14, 12, 16}, 2},
		{"r0 w1", [4]int{12, 14, 12, 15}, 3},
		{"r0 r1 w0 w1", [4]int{17, 21, 17, 21}, 4}, // two looks: at 0 behind the Read of 1, at 1 behind the Write of 0
	} {
		for i, manager := range managers() {
			s := by(t, manager, 5, 6)
			a := s.begin(0, q.words)
			ahead := s.Arena().Len()
			if n := a.run(); n != q.steps[i] || a.Steps() != n {
				t.Errorf("the manager %d, %s: %d steps, Steps: %d, not %d", manager, q.words, n, a.Steps(), q.steps[i])
			}
			if n := s.Arena().Len() - ahead; n != q.records {
				t.Errorf("%s: %d records", q.words, n)
			}
			a.is(api.Committed, 0)
		}
	}
}

// P14.2: the events that are noted, whole and in order; it notes no beginning.
func TestEvents(t *testing.T) {
	for _, manager := range managers() {
		s := by(t, manager, 5, 6)
		id := s.descriptor(2, 1, 3, 4, 0)
		a, e := attempt.Begin(s.Floor, 2, 1, 3, id, 4, ops("r0 +1 w1 r1 r0 x0 x0 =9 w0 r0"), attempt.Fresh())
		if e != api.ErrForm || a != nil { // ten operations
			t.Fatalf("Begin: error %d", e)
		}
		a, e = attempt.Begin(s.Floor, 2, 1, 3, id, 4, ops("r0 +1 w1 r1 r0 x0 x0 w0"), attempt.Fresh())
		if e != api.OK {
			t.Fatalf("Begin: error %d", e)
		}
		for a.Step() {
		}
		of := func(e api.Event) api.Event { e.Thread, e.Txn, e.Attempt = 2, 1, 3; return e }
		want := []api.Event{
			of(api.Event{Kind: api.EvRead, Obj: 0, Val: 5}),
			of(api.Event{Kind: api.EvWrite, Obj: 1, Val: 6}),
			of(api.Event{Kind: api.EvRead, Obj: 1, Val: 6}),
			of(api.Event{Kind: api.EvRead, Obj: 0, Val: 5}),
			of(api.Event{Kind: api.EvRelease, Obj: 0}),
			of(api.Event{Kind: api.EvWrite, Obj: 0, Val: 5}),
			of(api.Event{Kind: api.EvCommit}),
		}
		if l := s.Trace(); !slices.Equal(l, want) {
			t.Errorf("Trace: %+v, not %+v", l, want)
		}
	}
	for reason := api.Invalid; reason <= api.Memory; reason++ {
		a := abortedFor(t, reason)
		want := api.Event{Kind: api.EvAbort, Thread: 0, Txn: 4, Attempt: 9, Reason: reason}
		if l := a.Trace(); l[len(l)-1] != want {
			t.Errorf("the last event: %+v, not %+v", l[len(l)-1], want)
		}
	}
}

// abortedFor is an attempt that ended for a reason.
func abortedFor(t *testing.T, reason int) *actor {
	t.Helper()
	c := config(api.Stamp, 1)
	if reason == api.Memory {
		c.Records = 3
	}
	s := on(t, c, nil, 5)
	words := "r0"
	if reason == api.Self {
		s.foe(0, 0)
	}
	if reason == api.Memory {
		words = "w0"
	}
	a := s.begin(0, words)
	switch reason {
	case api.Invalid:
		s.till(a, "read 0 5")
		s.commits(0, 60)
	case api.Enemy:
		s.turn(a.id, api.Aborted)
	}
	a.run()
	a.is(api.Aborted, reason)
	return a
}

// P14.2: the memory by which an attempt ended stays as it is: it isn't troubled by having been aborted, which its thread says.
func TestNotTroubledByAnEnd(t *testing.T) {
	for reason := api.Invalid; reason <= api.Memory; reason++ {
		a := abortedFor(t, reason)
		if a.memory.Troubled != (reason == api.Self) { // it met a foe
			t.Errorf("aborted for %d: %+v", reason, *a.memory)
		}
		a.ended()
	}
}

// records are, for each record that a transaction wants alone, beyond its descriptor, the step that makes it.
func records(t *testing.T, manager int, words string) []int {
	t.Helper()
	s := by(t, manager, 5, 6)
	a := s.begin(0, words)
	var l []int
	for ahead := s.Arena().Len(); a.Step(); ahead = s.Arena().Len() {
		if s.Arena().Len() > ahead {
			l = append(l, a.Steps())
		}
	}
	return l
}

// P14.2: an arena with just the records that the attempt wants, and with fewer: aborted for Memory, by one step behind the one that found no room.
func TestRoom(t *testing.T) {
	for _, manager := range managers() {
		for _, words := range transactions() {
			wanted := records(t, manager, words)
			for room := range len(wanted) + 2 {
				c := config(manager, 2)
				c.Records = 5 + room
				s := on(t, c, nil, 5, 6)
				a := s.begin(0, words)
				n := a.run()
				if room >= len(wanted) {
					a.is(api.Committed, 0)
					a.values(alone(t, ops(words), []int64{5, 6})...)
					continue
				}
				a.is(api.Aborted, api.Memory)
				a.values(5, 6)
				if n != wanted[room]+1 {
					t.Errorf("%s, room for %d: %d steps, not %d", words, room, n, wanted[room]+1)
				}
				if s.Table().Status(a.id) != api.Aborted || s.Arena().Left() != 0 {
					t.Errorf("%s: its descriptor is %d, %d left", words, s.Table().Status(a.id), s.Arena().Left())
				}
			}
		}
	}
}

// P14.2: no room for the version, no room for the locator, of a Write, of another one of the same object, and of a claim.
func TestNoRoom(t *testing.T) {
	room := func(records int, words string) *actor {
		c := config(api.Polite, 1)
		c.Records = 3 + records
		return on(t, c, nil, 5).begin(0, words)
	}
	const gone = "status 2: 3, abort 4, is: 3 4"
	room(0, "w0").ends("-", "-", gone)
	room(1, "w0").ends("-", "version 3: 0", "-", gone)
	a := room(2, "w0 +1 w0")
	a.quiet(6)
	a.ends("-", "-", gone)
	a = room(3, "w0 +1 w0")
	a.quiet(6)
	a.ends("-", "version 5: 1", "-", gone)
	a.values(5)
	a = room(0, "r0")
	a.quiet(2)
	a.ends("-", "-", gone)
	a.values(5)
	// Behind a swap that failed: the version is there, a second locator is not.
	a = room(5, "=7 w0")
	a.quiet(3)
	a.scene.holds(2, 0, 7)
	a.quiet(1)
	if a.Arena().Left() != 1 {
		t.Fatalf("%d left", a.Arena().Left())
	}
	if _, e := a.Cells().Version(1); e != api.OK {
		t.Fatalf("Version: error %d", e)
	}
	a.ends("troubled: true", "-", "-", gone)
}

// P14.2: no room, and aborted from outside ahead of one's own abort: for Enemy.
func TestNoRoomAndAnEnemy(t *testing.T) {
	for at := range 3 {
		c := config(api.Polite, 1)
		c.Records = 3
		s := on(t, c, nil, 5)
		a := s.begin(0, "w0")
		a.quiet(at)
		s.turn(a.id, api.Aborted)
		a.run()
		a.is(api.Aborted, api.Enemy)
		if a.Steps() != 3 {
			t.Errorf("%d steps", a.Steps())
		}
	}
}

// P14.2: so of each other reason for which it would abort itself.
func TestQuitsAndAnEnemy(t *testing.T) {
	// Invalid, by a Write, by a look and by a claim.
	for _, words := range []string{"r0 w0", "r0 r1", "r0"} {
		s := by(t, api.Polite, 5, 6)
		a := s.begin(0, words)
		a.quiet(2)
		s.commits(0, 60)
		n := map[string]int{"r0 w0": 2, "r0 r1": 3, "r0": 2}[words]
		a.quiet(n)
		a.is(api.Active, 0)
		s.turn(a.id, api.Aborted)
		a.ends("abort 2, is: 3 2")
		a.values(60, 6)
	}
	s := by(t, api.Stamp, 5)
	s.foe(0, 0)
	a := s.begin(0, "r0")
	a.quiet(3*6 + 3)
	s.turn(a.id, api.Aborted)
	a.ends("abort 2, is: 3 2")
}

// P14.2: an attempt is aborted from outside ahead of its first step, at each step between, and behind its last one: it goes on, and ends for Enemy, unless it ended.
func TestAbortedFromOutside(t *testing.T) {
	for _, manager := range managers() {
		for _, words := range transactions() {
			whole := by(t, manager, 5, 6)
			n := whole.begin(0, words).run()
			for at := range n + 1 {
				s := by(t, manager, 5, 6)
				a := s.begin(0, words)
				a.quiet(at)
				turned := s.Table().Turn(a.id, api.Aborted)
				if turned != (at < n) {
					t.Fatalf("%s, behind %d steps: Turn: %v", words, at, turned)
				}
				if at == n {
					a.is(api.Committed, 0)
					a.ended()
					continue
				}
				a.is(api.Active, 0)
				a.run()
				a.is(api.Aborted, api.Enemy)
				a.values(5, 6)
				l := s.Trace()
				if a.event(l[len(l)-1]) != "abort 2" {
					t.Errorf("%s: the last event: %+v", words, l[len(l)-1])
				}
				for _, e := range l[:len(l)-1] {
					if e.Kind == api.EvAbort || e.Kind == api.EvCommit {
						t.Errorf("%s: two ends", words)
					}
				}
			}
		}
	}
}

// P14.2: at which step one that was aborted ahead of its first step ends: where its own status is asked, or turned.
func TestWhereAnAbortedOneEnds(t *testing.T) {
	for _, q := range []struct {
		words string
		want  []string
	}{
		{"=5", []string{"sum: 5", "abort 2, is: 3 2"}},
		{"x0", []string{"-", "abort 2, is: 3 2"}},
		{"=5 +2", []string{"sum: 5", "sum: 7", "abort 2, is: 3 2"}},
		{"=5 r0 +2", []string{"sum: 5", "-", "abort 2, is: 3 2"}},
		{"w0 +2", []string{"-", "version 3: 0", "locator 4: 2 0 3", "cell 0: 4, own 0: 4 3 0 false true", "abort 2, is: 3 2"}},
	} {
		s := by(t, api.Polite, 5)
		a := s.begin(0, q.words)
		s.turn(a.id, api.Aborted)
		a.ends(q.want...)
		a.values(5)
	}
	// Behind a Write that was done, a Read of its own, and a claim.
	s := by(t, api.Polite, 5, 6)
	a := s.begin(0, "r1 =7 w0 r0")
	s.till(a, "write 0 7")
	s.turn(a.id, api.Aborted)
	a.ends("read 0 7", "-", "locator 7: 4 2 2", "cell 1: 7, own 1: 7 2 6 true true", "abort 2, is: 3 2")
	a.values(5, 6)
	// A mark, its end, and a raise do nothing to it; a foe is aborted all the same.
	s = by(t, api.Greedy, 5)
	s.foe(0, 0)
	a = s.begin(0, "r0")
	s.turn(a.id, api.Aborted)
	a.makes("-", "-", "-", "foes: 2 1 0 0 1, troubled: true", "-", "-", "-", "-", "senior: true 1 0", "-", "-", "-", "foes: 2 2 0 0 2")
	s.Table().Wait(2, true)
	a.quiet(3 + 3)
	a.makes("foes: 2 3 0 0 2", "status 2: 3", "-", "-", "-", "abort 2, is: 3 2")
	s = by(t, api.Karma, 5)
	a = s.begin(0, "r0")
	s.turn(a.id, api.Aborted)
	a.ends("-", "raised: 1", "abort 2, is: 3 2")
}

// P14.2: one that is marked and aborted then isn't unmarked any more.
func TestAbortedWhileMarked(t *testing.T) {
	s := by(t, api.Greedy, 5)
	s.foe(0, 0)
	a := s.begin(0, "r0")
	a.quiet(4)
	a.makes("waiting 5: true")
	s.turn(a.id, api.Aborted)
	a.makes("-", "-")
	if !s.Table().Waiting(a.id) {
		t.Error("unmarked")
	}
}

// P14.2: its status was turned to Committed from outside: what asks whether it is aborted goes on, what turns it ends for Enemy.
func TestCommittedFromOutside(t *testing.T) {
	s := by(t, api.Polite, 5, 6)
	a := s.begin(0, "=7 w0 r1")
	s.till(a, "write 0 7")
	s.turn(a.id, api.Committed)
	a.values(7, 6)
	a.makes("-", "sum: 6, reading 1: 2 6 true, read 1 6")
	a.ends("-", "locator 7: 4 2 2", "cell 1: 7, own 1: 7 2 6 true true", "abort 2, is: 3 2")
}

// P14.3: what an attempt that didn't commit wrote is never seen: not while it is open, nor behind its end, by the values nor by another attempt.
func TestNeverSeen(t *testing.T) {
	for _, manager := range managers() {
		for _, words := range []string{"=7 w0", "=7 w0 =8 w0", "=7 w0 w1", "=7 w0 r0 r1"} {
			n := by(t, manager, 5, 6).begin(0, words).run()
			for at := range n {
				s := by(t, manager, 5, 6)
				a := s.begin(0, words)
				for range at {
					a.Step()
					a.values(5, 6)
				}
				s.turn(a.id, api.Aborted)
				a.values(5, 6)
				other := s.begin(1, "r0 r1")
				other.run()
				other.is(api.Committed, 0)
				if l := s.Trace(); other.event(l[len(l)-3]) != "read 0 5" || other.event(l[len(l)-2]) != "read 1 6" {
					t.Errorf("%s: %+v", words, l)
				}
				a.run()
				a.values(5, 6)
			}
		}
	}
}

// P14.2, P14.3: each of the reasons, where two get into each other's way: who reads what the other one writes.
func TestTwo(t *testing.T) {
	// Two that read each other's objects and write their own: not both commit, at whichever step the second one begins.
	for _, manager := range managers() {
		for at := range 40 {
			s := by(t, manager, 5, 6)
			a, b := s.begin(0, "r0 w1"), s.begin(1, "r1 w0")
			for range at {
				a.Step()
			}
			b.run()
			a.run()
			one, reason := a.Status()
			other, otherReason := b.Status()
			if one == api.Committed && other == api.Committed && !s.inOrder() {
				t.Errorf("the manager %d, %d: both, of values %v", manager, at, s.Values())
			}
			if one == api.Aborted && other == api.Aborted {
				t.Errorf("the manager %d, %d: none, %d and %d", manager, at, reason, otherReason)
			}
		}
	}
}

// inOrder says whether both values are what the two leave, one behind the other: 5, 5 and then that again, or 6, 6.
func (s *scene) inOrder() bool {
	l := s.Values()
	return l[0] == l[1]
}

// P14.2: behind its end nothing changes any more, whatever is done to the floor, or to its memory.
func TestBehindTheEnd(t *testing.T) {
	for _, manager := range managers() {
		s := by(t, manager, 5, 6)
		a := s.begin(0, "r0 +1 w0")
		n := a.run()
		s.commits(0, 60)
		a.memory.Troubled = true
		s.senior(0, 2)
		a.ended()
		a.is(api.Committed, 0)
		if a.Steps() != n || a.Sum() != 6 || len(a.Set().Readings()) != 1 || len(a.Set().Owns()) != 1 {
			t.Errorf("behind the end: %d steps, the sum %d, %v, %v", a.Steps(), a.Sum(), a.Set().Readings(), a.Set().Owns())
		}
	}
}

// P14.2: a status turns once: two attempts of one descriptor don't both end well.
func TestTwoOfOneDescriptor(t *testing.T) {
	s := by(t, api.Polite, 5)
	id := s.descriptor(0, 0, 1, 1, 0)
	var ends []string
	for range 2 {
		a, e := attempt.Begin(s.Floor, 0, 0, 1, id, 1, ops("=5"), attempt.Fresh())
		if e != api.OK {
			t.Fatalf("Begin: error %d", e)
		}
		for a.Step() {
		}
		status, reason := a.Status()
		ends = append(ends, fmt.Sprint(int(status), " ", reason))
	}
	if !slices.Equal(ends, []string{"2 0", "3 2"}) {
		t.Errorf("ends: %v", ends)
	}
}
