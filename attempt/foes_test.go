package attempt_test

import (
	"fmt"
	"strings"
	"testing"

	"quarrel/api"
	"quarrel/attempt"
	"quarrel/choice"
	"quarrel/reads"
)

// foe is a descriptor of the thread 1, transaction 0, that is Active, and holds the object 0, which becomes 60.
func (s *scene) foe(stamp, priority int) int {
	s.Helper()
	id := s.descriptor(1, 0, 1, stamp, priority)
	s.holds(id, 0, 60)
	return id
}

// dashes are so many steps that change nothing.
func dashes(n int) []string { return strings.Split(strings.Repeat("-", n), "") }

// P14.2: Polite waits four times, as long as is drawn, without a mark, and aborts the foe then; behind each wait it opens anew.
func TestPolite(t *testing.T) {
	c := config(api.Polite, 1)
	c.Wait = 6
	s := on(t, c, []byte{1, 6, 3, 44, 200, 9}, 5)
	foe := s.foe(0, 0) // the records 2, 3, 4
	a := s.begin(0, "=7 w0")
	a.makes("sum: 7")
	a.makes("-", "-", "foes: 2 1 0 0 0, troubled: true", "-", "-")     // 1 and 1 modulo 2
	a.makes("-", "-", "foes: 2 2 0 0 0", "-", "-", "-")                // 1 and 6 modulo 4
	a.makes("-", "-", "foes: 2 3 0 0 0", "-", "-", "-", "-")           // 1 and 3 modulo 8
	a.makes("-", "-", "foes: 2 4 0 0 0", "-", "-", "-", "-", "-", "-") // 1 and 44 modulo 16, but 6 at most
	a.makes("-", "-", "foes: 2 5 0 0 0", fmt.Sprintf("status %d: 3", foe))
	a.ends("-", "-", "version 6: 7", "locator 7: 5 0 6", "cell 0: 7, own 0: 7 6 7 false true", "write 0 7", "status 5: 2, values: [7], commit, is: 2 0")
	s.drew(0, 9)
}

// P14.2: Karma waits as long as it did less, one step each time, and aborts the foe then.
func TestKarma(t *testing.T) {
	s := by(t, api.Karma, 5)
	foe := s.foe(0, 4)
	a := s.actor(0, 1, 2, "r0", attempt.Fresh())
	a.makes("-", "-", "foes: 2 1 0 0 0, troubled: true", "-")
	a.makes("-", "-", "foes: 2 2 0 0 0", fmt.Sprintf("status %d: 3", foe))
	a.ends("-", "-", "priority 5: 3, raised: 1", "sum: 5, reading 0: 0 5 true, read 0 5",
		"-", "-", "locator 6: 5 0 0", "cell 0: 6, own 0: 6 0 5 true true", "status 5: 2, commit, is: 2 0")
	// The foe's priority is asked at each meeting, and so is one's own, which goes up behind each opening.
	s = by(t, api.Karma, 5, 6)
	foe = s.foe(0, 1)
	a = s.begin(0, "r1 r0")
	a.makes("-", "priority 7: 1, raised: 1", "sum: 6, reading 1: 2 6 true, read 1 6")
	s.Table().Raise(foe)
	s.Table().Raise(foe)
	a.makes("-", "-", "foes: 4 1 0 0 0, troubled: true", "-") // 1 and 1 against 3
	a.makes("-", "-", "foes: 4 2 0 0 0", "status 4: 3")       // 1 and 2 against 3
}

// P14.2: Stamp, the elder one: aborted at once. The younger one waits three times, gives way once, and aborts the foe in the next attempt.
func TestStamp(t *testing.T) {
	s := by(t, api.Stamp, 5)
	s.foe(2, 0)
	a := s.actor(0, 1, 0, "r0", attempt.Fresh())
	a.makes("-", "-", "foes: 2 1 0 0 0, troubled: true", "status 2: 3", "-", "-", "sum: 5, reading 0: 0 5 true, read 0 5")

	s = by(t, api.Stamp, 5)
	s.foe(2, 0)
	a = s.actor(0, 3, 0, "r0", attempt.Fresh())
	for n := 1; n <= 3; n++ {
		foes := fmt.Sprintf("foes: 2 %d 0 0 0", n)
		if n == 1 {
			foes += ", troubled: true"
		}
		a.makes("-", "-", foes, "-", "-", "-") // a quarter of 8, and 1
	}
	a.ends("-", "-", "foes: 2 4 1 0 0", "status 5: 3, abort 3, is: 3 3")
	next := s.actor(0, 3, 0, "r0", a.memory)
	next.ends("-", "-", "foes: 2 5 1 0 0", "status 2: 3", "-", "-", "sum: 5, reading 0: 0 5 true, read 0 5",
		"-", "-", "locator 7: 6 0 0", "cell 0: 7, own 0: 7 0 5 true true", "status 6: 2, commit, is: 2 0")
}

// P14.2: Greedy: a younger foe, or one that waits, is aborted at once; an elder one is waited for, with a mark and its end, and the gate ahead of each opening.
func TestGreedy(t *testing.T) {
	for _, waiting := range []bool{false, true} {
		s := by(t, api.Greedy, 5)
		stamp := 2
		if waiting {
			stamp = 0
		}
		foe := s.foe(stamp, 0)
		s.Table().Wait(foe, waiting)
		a := s.begin(0, "r0")
		a.makes("-", "-", "-", "foes: 2 1 0 0 0, troubled: true", "status 2: 3")
		a.makes("-", "senior: true 1 0", "-", "-", "-", "sum: 5, reading 0: 0 5 true, read 0 5")
	}
	c := config(api.Greedy, 1)
	c.Wait = 2
	s := on(t, c, row(50), 5)
	s.foe(0, 0)
	a := s.begin(0, "r0")
	a.makes("-", "-", "-", "foes: 2 1 0 0 1, troubled: true", "waiting 5: true", "-", "waiting 5: false")
	a.makes("-", "senior: true 1 0", "-") // troubled: it claims to be the senior, and goes
	a.makes("-", "-", "foes: 2 2 0 0 2", "waiting 5: true", "-", "waiting 5: false")
	s.Gate().Beat(1)
	a.makes("-", "-", "-", "foes: 2 3 0 1 0", "waiting 5: true", "-", "waiting 5: false")
	a.makes("-", "-", "-", "foes: 2 4 0 1 1", "waiting 5: true", "-", "waiting 5: false")
	s.Gate().Beat(0) // another thread's pulse
	a.makes("-", "-", "-", "foes: 2 5 0 1 2", "waiting 5: true", "-", "waiting 5: false")
	a.makes("-", "-", "-", "foes: 2 6 0 1 3", "status 2: 3")
	a.makes("-", "-", "-", "sum: 5, reading 0: 0 5 true, read 0 5")
	s.drew(0, 6) // once a meeting, though nothing hangs on it
}

// P14.2: how long the managers that don't mark wait: no step more. (Greedy's For is of one step.)
func TestWaits(t *testing.T) {
	for wait := 1; wait <= api.MaxWait; wait++ {
		c := config(api.Stamp, 1)
		c.Wait = wait
		s := on(t, c, nil, 5)
		s.foe(0, 0)
		a := s.begin(0, "w0")
		a.quiet(3)
		for range min(wait/4+1, wait) {
			a.makes("-")
		}
		a.makes("-", "-", "foes: 2 2 0 0 0")
	}
	for draw := range 256 {
		c := config(api.Polite, 1)
		c.Wait = 16
		s := on(t, c, []byte{0, 0, 0, byte(draw)}, 5)
		s.foe(0, 0)
		a := s.begin(0, "r0")
		a.quiet(3 * (3 + 1)) // three waits of one step
		a.makes("-", "-", "foes: 2 4 0 0 0")
		a.makes(dashes(1 + draw%16)...)
		a.makes("-", "-", "foes: 2 5 0 0 0", "status 2: 3")
	}
}

// P14.2: each kind of opening meets its foe alike: a Read, a Write, and a claim.
func TestEachOpeningMeets(t *testing.T) {
	for _, manager := range managers() {
		for _, kind := range []string{"read", "write", "claim"} {
			s := by(t, manager, 5)
			words := map[string]string{"read": "r0", "write": "=7 w0", "claim": "r0"}[kind]
			a := s.begin(0, words)
			switch kind {
			case "write":
				a.quiet(1)
			case "claim":
				s.till(a, "read 0 5")
			}
			foe := s.foe(9, 0)
			s.Table().Wait(foe, true)
			if manager == api.Greedy {
				a.makes("-")
			}
			a.makes("-", "-")
			if manager == api.Polite {
				a.makes(fmt.Sprintf("foes: %d 1 0 0 0, troubled: true", foe), "-", "-")
				a.makes("-", "-", fmt.Sprintf("foes: %d 2 0 0 0", foe))
				continue
			}
			a.makes(fmt.Sprintf("foes: %d 1 0 0 0, troubled: true", foe), fmt.Sprintf("status %d: 3", foe))
			a.run()
			a.is(api.Committed, 0)
		}
	}
}

// P14.2: what the manager is told of a foe: its descriptor's number, and its thread's pulse, not those of another one.
func TestWhatIsSeenOfAFoe(t *testing.T) {
	s := by(t, api.Greedy, 5)
	foe := s.descriptor(2, 3, 4, 0, 77)
	s.holds(foe, 0, 60)
	for range 40 {
		s.Gate().Beat(2)
	}
	for range 7 {
		s.Gate().Beat(1)
	}
	a := s.begin(0, "r0")
	a.makes("-", "-", "-", "foes: 2 1 0 40 1, troubled: true")
	// Of a foe whose thread there isn't: the pulse 0.
	s = by(t, api.Greedy, 5)
	s.holds(s.descriptor(5, 3, 4, 0, 77), 0, 60)
	s.Gate().Beat(2)
	a = s.begin(0, "r0")
	a.makes("-", "-", "-", "foes: 2 1 0 0 1, troubled: true")
}

// P14.2: the stamp by which it is told elder or younger is the one with which it was begun; of the foe: its descriptor's.
func TestWhoIsElder(t *testing.T) {
	for _, manager := range []int{api.Stamp, api.Greedy} {
		for mine := range 5 {
			for his := range 5 {
				s := by(t, manager, 5)
				s.foe(his, 0)
				id := s.descriptor(0, 0, 1, 4-mine, 0)
				m := attempt.Fresh()
				a, e := attempt.Begin(s.Floor, 0, 0, 1, id, mine, ops("r0"), m)
				if e != api.OK {
					t.Fatalf("Begin: error %d", e)
				}
				n := 4
				if manager == api.Greedy {
					n = 5
				}
				for range n {
					a.Step()
				}
				if aborted := s.Table().Status(2) == api.Aborted; aborted != (mine < his) {
					t.Errorf("the manager %d, %d and %d: aborted: %v", manager, mine, his, aborted)
				}
			}
		}
	}
}

// P14.2: each thread draws by itself, once a meeting, by any manager.
func TestDraws(t *testing.T) {
	for _, manager := range managers() {
		c := config(manager, 1)
		s := on(t, c, row(50), 5)
		s.foe(0, 3)
		m := attempt.Fresh()
		a := s.actor(2, 1, 0, "r0", m)
		a.run()
		meetings := m.Foes.Tries
		if meetings < 2 {
			t.Errorf("the manager %d: %d meetings", manager, meetings)
		}
		s.drew(2, meetings)
		s.drew(0, 0)
		s.drew(1, 0)
	}
}

// P14.2: a foe ends between the load and its status, between that and the meeting, and between that and being aborted.
func TestFoeEndsBetween(t *testing.T) {
	for _, to := range []api.Status{api.Committed, api.Aborted} {
		version, value := 0, 5
		if to == api.Committed {
			version, value = 3, 60
		}
		read := fmt.Sprintf("sum: %d, reading 0: %d %d true, read 0 %d", value, version, value, value)
		// By Stamp, the elder one: it would be aborted at once.
		for at := 1; at <= 3; at++ {
			s := by(t, api.Stamp, 5)
			foe := s.foe(9, 0)
			a := s.begin(0, "r0")
			a.quiet(at)
			s.turn(foe, to)
			switch at {
			case 1: // ahead of its status: nobody is met
				a.makes("-", read)
			case 2: // ahead of the meeting, which takes place all the same
				a.makes("foes: 2 1 0 0 0, troubled: true", "-", "-", "-", read)
			case 3: // ahead of its abort, which does nothing to it
				a.makes("-", "-", "-", read)
			}
			if s.Table().Status(foe) != to {
				t.Errorf("the foe is %d, not %d", s.Table().Status(foe), to)
			}
		}
		// While it is waited for.
		s := by(t, api.Karma, 5)
		foe := s.foe(9, 5)
		a := s.begin(0, "r0")
		a.makes("-", "-", "foes: 2 1 0 0 0, troubled: true")
		s.turn(foe, to)
		a.makes("-", "-", "-", "priority 5: 1, raised: 1", read)
	}
}

// P14.2: another attempt was quicker: the swap fails, it is troubled, opens anew, with the version that it wrote, and another locator.
func TestSwapThatFails(t *testing.T) {
	for _, manager := range managers() {
		s := by(t, manager, 5)
		a := s.begin(0, "=7 w0")
		n := 3 // the sum, load, version
		if manager == api.Greedy {
			n = 4
		}
		a.quiet(n)
		s.commits(0, 60)                              // the records 4, 5, 6
		a.makes("locator 7: 2 0 3", "troubled: true") // the locator of what was loaded; the swap
		a.values(60)
		if manager == api.Greedy {
			a.makes("-", "senior: true 1 0", "-")
		}
		a.makes("-", "-", "locator 8: 2 5 3", "cell 0: 8, own 0: 8 3 7 false true")
		if manager == api.Karma {
			a.makes("priority 2: 1, raised: 1")
		}
		a.ends("write 0 7", "status 2: 2, values: [7], commit, is: 2 0")
	}
}

// P14.2: so behind several that were quicker; what was written is written once.
func TestSwapThatFailsOften(t *testing.T) {
	s := by(t, api.Polite, 5)
	a := s.begin(0, "=7 w0")
	a.quiet(3)
	for n := range 10 {
		a.quiet(1) // the locator
		s.commits(0, int64(n))
		a.quiet(3) // the swap, load, the owner's status
	}
	a.quiet(1)
	a.makes("cell 0: 44, own 0: 44 3 7 false true", "write 0 7")
	versions := 0
	for at := range s.Arena().Len() {
		if r, _ := s.Arena().At(at); r.Kind == api.Version && r.Val == 7 {
			versions++
		}
	}
	if versions != 2 { // one of the ten wrote 7, too
		t.Errorf("%d versions of 7", versions)
	}
}

// P14.2: a next Write has a version of its own again, also where the first one was opened anew.
func TestNextWriteHasItsOwnVersion(t *testing.T) {
	s := by(t, api.Polite, 5, 6)
	a := s.begin(0, "=7 w0 w1 =9 w1")
	a.quiet(3)
	s.commits(0, 60)                              // the records 6, 7, 8
	a.makes("locator 9: 4 0 5", "troubled: true") // fails
	a.makes("-", "-", "locator 10: 4 7 5", "cell 0: 10, own 0: 10 5 7 false true", "write 0 7")
	a.makes("-", "version 11: 7", "locator 12: 4 2 11", "cell 1: 12, own 1: 12 11 7 false true", "write 1 7")
	a.makes("sum: 9", "-", "version 13: 9", "locator 14: 4 2 13", "cell 1: 14, own 1: 14 13 9 false true", "write 1 9")
	a.ends("status 4: 2, values: [7 9], commit, is: 2 0")
}

// P14.2: an object of its own was taken by another one, who aborted it: a swap of what was loaded fails, and so goes on.
func TestOnesOwnIsTaken(t *testing.T) {
	s := by(t, api.Stamp, 5)
	a := s.begin(0, "=7 w0 =8 w0")
	a.quiet(6)
	a.makes("sum: 8", "-", "version 5: 8", "locator 6: 2 0 5")
	s.turn(2, api.Aborted)
	foe := s.foe(9, 0) // the records 7, 8, 9
	a.makes("troubled: true", "-", "-", "foes: 7 1 0 0 0")
	a.makes("status 7: 3", "-", "-", "locator 10: 2 0 5", "cell 0: 10, own 0: 10 5 8 false true")
	a.ends("abort 2, is: 3 2")
	if s.Table().Status(foe) != api.Aborted {
		t.Error("the foe isn't aborted")
	}
	a.values(5)
}

// P14.2: a claim whose swap fails is opened anew, too: what was read is asked for again.
func TestClaimWhoseSwapFails(t *testing.T) {
	for _, to := range []api.Status{api.Committed, api.Aborted} {
		for _, manager := range managers() {
			s := by(t, manager, 5)
			a := s.begin(0, "r0")
			s.till(a, "read 0 5")
			if manager == api.Greedy {
				a.makes("-")
			}
			a.makes("-", "locator 3: 2 0 0")
			other := s.descriptor(1, 0, 1, 7, 0) // the records 4, 5, 6
			s.holds(other, 0, 60)
			s.turn(other, to)
			a.makes("troubled: true")
			if manager == api.Greedy {
				a.makes("-", "senior: true 1 0", "-")
			}
			a.makes("-", "-")
			if to == api.Committed {
				a.ends("status 2: 3, abort 1, is: 3 1")
				a.owns()
				a.values(60)
				continue
			}
			a.ends("locator 7: 2 0 0", "cell 0: 7, own 0: 7 0 5 true true", "status 2: 2, commit, is: 2 0")
			a.owns(reads.Own{Obj: 0, Locator: 7, Version: 0, Val: 5, Claimed: true})
			a.values(5)
		}
	}
}

// P14.2: the gate: who isn't troubled goes where there is no senior, or a younger one, or itself; an elder one is stayed for.
func TestGate(t *testing.T) {
	const read = "sum: 5, reading 0: 0 5 true, read 0 5"
	s := by(t, api.Greedy, 5)
	a := s.actor(0, 3, 0, "r0", attempt.Fresh())
	a.makes("-", "-", read)
	for _, stamp := range []int{3, 4, 200} {
		s = by(t, api.Greedy, 5)
		s.senior(stamp, 1)
		a = s.actor(0, 3, 0, "r0", attempt.Fresh())
		a.makes("-", "-", read)
		if x := s.sight(); x.Stamp != stamp || x.Thread != 1 {
			t.Errorf("See: %+v", x)
		}
	}
	c := config(api.Greedy, 1)
	c.Wait = 3
	s = on(t, c, nil, 5)
	s.senior(2, 1)
	a = s.actor(0, 3, 0, "r0", attempt.Fresh())
	a.makes("gate: 2 1 0 0 1", "gate: 2 2 0 0 2", "gate: 2 3 0 0 3") // its pulse stands so long
	s.Gate().Beat(1)
	a.makes("gate: 2 4 0 1 0", "gate: 2 5 0 1 1", "gate: 2 6 0 1 2", "gate: 2 7 0 1 3")
	a.makes("gate: 2 8 0 1 4", "-", read) // more than wait looks: it goes
	// The next opening, the claim, asks again.
	a.makes("gate: 2 9 0 1 5", "-", "locator 3: 2 0 0")
	s.Gate().Leave(2, 1)
	a.makes("cell 0: 3, own 0: 3 0 5 true true", "status 2: 2, commit, is: 2 0")
}

// P14.2: while one stays another one leaves: the next look goes.
func TestSeniorLeaves(t *testing.T) {
	s := by(t, api.Greedy, 5)
	s.senior(2, 1)
	a := s.actor(0, 3, 0, "r0", attempt.Fresh())
	a.makes("gate: 2 1 0 0 1", "gate: 2 2 0 0 2")
	if !s.Gate().Leave(2, 1) {
		t.Fatal("Leave: false")
	}
	a.makes("-", "-", "sum: 5, reading 0: 0 5 true, read 0 5")
}

// P14.2: who is troubled claims, where there is no senior, or a younger one; it stays for an elder one all the same.
func TestTroubledClaims(t *testing.T) {
	troubled := func() *attempt.Memory {
		m := attempt.Fresh()
		m.Troubled = true
		return m
	}
	s := by(t, api.Greedy, 5)
	a := s.actor(2, 3, 0, "r0", troubled())
	a.makes("-", "senior: true 3 2", "-", "-", "sum: 5, reading 0: 0 5 true, read 0 5")
	// The senior now, it goes at once.
	a.makes("-", "-", "locator 3: 2 0 0")
	s = by(t, api.Greedy, 5)
	s.senior(4, 1)
	a = s.actor(0, 3, 0, "w0", troubled())
	a.makes("-", "senior: true 3 0", "-", "-", "version 3: 0")
	s = by(t, api.Greedy, 5)
	s.senior(2, 1)
	a = s.actor(0, 3, 0, "w0", troubled())
	a.makes("gate: 2 1 0 0 1", "gate: 2 2 0 0 2")
}

// P14.2: another one was quicker at the gate: the swap fails, and the gate is looked at again: an elder one is stayed for, of a younger one it is claimed.
func TestSwapOfTheGateThatFails(t *testing.T) {
	m := attempt.Fresh()
	m.Troubled = true
	s := by(t, api.Greedy, 5)
	a := s.actor(0, 3, 0, "r0", m)
	a.makes("-")
	s.senior(4, 1)
	a.makes("-", "-")
	s.senior(7, 2) // not the one that was seen
	a.makes("-", "-", "senior: true 3 0", "-", "-", "sum: 5, reading 0: 0 5 true, read 0 5")

	m = attempt.Fresh()
	m.Troubled = true
	s = by(t, api.Greedy, 5)
	a = s.actor(0, 3, 0, "r0", m)
	a.makes("-")
	s.senior(2, 1)
	a.makes("-", "gate: 2 1 0 0 1", "gate: 2 2 0 0 2")
	// It left between: what was seen then isn't the senior any more.
	m = attempt.Fresh()
	m.Troubled = true
	s = by(t, api.Greedy, 5)
	s.senior(4, 1)
	a = s.actor(0, 3, 0, "r0", m)
	a.makes("-")
	s.Gate().Leave(4, 1)
	a.makes("-", "-", "senior: true 3 0", "-")
}

// P14.2: who isn't by Greedy asks no gate, whoever is the senior, and however troubled it is.
func TestNoGate(t *testing.T) {
	for _, manager := range []int{api.Polite, api.Karma, api.Stamp} {
		s := by(t, manager, 5)
		s.senior(0, 1)
		m := attempt.Fresh()
		m.Troubled = true
		a := s.actor(0, 3, 0, "r0 w0", m)
		a.run()
		a.is(api.Committed, 0)
		if m.Gate != choice.Fresh() || s.sight().Thread != 1 || s.sight().Stamp != 0 {
			t.Errorf("the manager %d: %+v, %+v", manager, m.Gate, s.sight())
		}
	}
}

// P14.2: the memory is the one that was handed in, is read at each step, and goes from one attempt to the next.
func TestMemoryHandedOn(t *testing.T) {
	s := by(t, api.Polite, 5)
	s.foe(0, 0)
	m := attempt.Fresh()
	a := s.actor(0, 1, 0, "r0", m)
	a.makes("-", "-", "foes: 2 1 0 0 0, troubled: true", "-", "-")
	s.turn(a.id, api.Aborted)
	// Another attempt of the same transaction, while the first one is still at it: they have one memory.
	next := s.actor(0, 1, 0, "r0", m)
	next.makes("-", "-", "foes: 2 2 0 0 0")
	a.makes("-", "-", "foes: 2 3 0 0 0")
	m.Foes.Tries = 4
	next.quiet(4) // 1 and 3 modulo 4
	next.makes("-", "-", "foes: 2 5 0 0 0", "status 2: 3")
	// Another transaction has another memory.
	s = by(t, api.Karma, 5)
	one, other := s.begin(0, "r0"), s.begin(0, "r0")
	one.quiet(3)
	if one.memory.Raised != 1 || other.memory.Raised != 0 {
		t.Errorf("Raised: %d, %d", one.memory.Raised, other.memory.Raised)
	}
}

// P14.1: Raised counts the steps raise, over attempts, whatever Raise answered; by no other manager than Karma.
func TestRaised(t *testing.T) {
	s := by(t, api.Karma, 5, 6)
	m := attempt.Fresh()
	a := s.actor(0, 1, 7, "r0 r0 w1 r1 w1 x0 =3", m)
	a.run()
	if m.Raised != 3 || s.Table().Priority(a.id) != 10 { // one Read, two Writes; what needs nobody, and claims, don't count
		t.Errorf("Raised: %d, the priority %d", m.Raised, s.Table().Priority(a.id))
	}
	a = s.actor(0, 1, 10, "r0 w1", m)
	s.turn(a.id, api.Aborted)
	a.quiet(2 + 1) // the owner's status comes behind the load
	if m.Raised != 4 || s.Table().Priority(a.id) != 10 {
		t.Errorf("Raised: %d, the priority %d", m.Raised, s.Table().Priority(a.id))
	}
	for _, manager := range []int{api.Polite, api.Stamp, api.Greedy} {
		s := by(t, manager, 5, 6)
		a := s.begin(0, "r0 w1 r1 w0")
		a.run()
		if a.memory.Raised != 0 || s.Table().Priority(a.id) != 0 {
			t.Errorf("the manager %d: Raised: %d", manager, a.memory.Raised)
		}
	}
}
