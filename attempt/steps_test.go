package attempt_test

import (
	"testing"

	"quarrel/api"
	"quarrel/attempt"
	"quarrel/reads"
)

// The chapter's example, step by step.
func TestExample(t *testing.T) {
	s := by(t, api.Polite, 5)
	a := s.begin(0, "r0 +1 w0")
	a.ends(
		"-",                                     // load
		"sum: 5, reading 0: 0 5 true, read 0 5", // alive
		"sum: 6",                                // local
		"-",                                     // load
		"version 3: 6",                          // version
		"locator 4: 2 0 3",                      // locator
		"cell 0: 4, own 0: 4 3 6 false true",    // swap
		"write 0 6",                             // alive
		"status 2: 2, values: [6], commit, is: 2 0",
	)
	if a.Steps() != 9 {
		t.Errorf("Steps: %d", a.Steps())
	}
	a.values(6)
}

// P14.1: what there is behind Begin, ahead of the first step.
func TestBegun(t *testing.T) {
	for _, manager := range managers() {
		s := by(t, manager, 5, 6)
		m := attempt.Fresh()
		id := s.descriptor(1, 2, 3, 4, 5)
		a, e := attempt.Begin(s.Floor, 1, 2, 3, id, 4, ops("w1"), m)
		if a == nil || e != api.OK {
			t.Fatalf("Begin: %v, error %d", a != nil, e)
		}
		if status, reason := a.Status(); status != api.Active || reason != 0 || a.Sum() != 0 || a.Steps() != 0 {
			t.Errorf("begun: %d, %d, the sum %d, %d steps", status, reason, a.Sum(), a.Steps())
		}
		if a.Set() == nil || len(a.Set().Readings()) != 0 || len(a.Set().Owns()) != 0 {
			t.Error("the set isn't empty")
		}
		if len(s.Trace()) != 0 || s.Arena().Len() != 5 || s.Table().Status(id) != api.Active || *m != *attempt.Fresh() {
			t.Error("Begin did something")
		}
	}
}

// P14.1: a fresh memory, each time another one.
func TestFresh(t *testing.T) {
	m := attempt.Fresh()
	if m == nil {
		t.Fatal("Fresh: nil")
	}
	want := attempt.Memory{}
	want.Foes.Foe, want.Gate.Foe = -1, -1
	if *m != want {
		t.Errorf("Fresh: %+v", *m)
	}
	m.Troubled, m.Raised, m.Foes.Foe = true, 4, 7
	if other := attempt.Fresh(); other == m || *other != want {
		t.Errorf("Fresh, a second time: %+v", *other)
	}
}

// lonely is an operation of an object that was not touched, and what it does alone, by each manager.
type lonely struct {
	words string
	want  map[int][]string
}

// P14.2: each operation alone, of an object that was not touched, by each manager.
func TestEachOperationAlone(t *testing.T) {
	same := func(l ...string) map[int][]string {
		return map[int][]string{api.Polite: l, api.Karma: l, api.Stamp: l, api.Greedy: l}
	}
	const (
		commit = "status 2: 2, commit, is: 2 0"
		raise  = "priority 2: 1, raised: 1"
		had    = "sum: 5, reading 0: 0 5 true, read 0 5"
		swap   = "cell 0: 4, own 0: 4 3 0 false true"
		claim  = "cell 0: 3, own 0: 3 0 5 true true"
		wrote  = "status 2: 2, values: [0], commit, is: 2 0"
	)
	for _, q := range []lonely{
		{"=5", same("sum: 5", commit)},
		{"=0", same("-", commit)},
		{"=-128", same("sum: -128", commit)},
		{"+5", same("sum: 5", commit)},
		{"-5", same("sum: -5", commit)},
		{"+0", same("-", commit)},
		{"x0", same("-", commit)},
		{"r0", map[int][]string{
			api.Polite: {"-", had, "-", "locator 3: 2 0 0", claim, commit},
			api.Karma:  {"-", raise, had, "-", "locator 3: 2 0 0", claim, commit},
			api.Stamp:  {"-", had, "-", "locator 3: 2 0 0", claim, commit},
			api.Greedy: {"-", "-", had, "-", "-", "locator 3: 2 0 0", claim, commit},
		}},
		{"w0", map[int][]string{
			api.Polite: {"-", "version 3: 0", "locator 4: 2 0 3", swap, "write 0 0", wrote},
			api.Karma:  {"-", "version 3: 0", "locator 4: 2 0 3", swap, raise, "write 0 0", wrote},
			api.Stamp:  {"-", "version 3: 0", "locator 4: 2 0 3", swap, "write 0 0", wrote},
			api.Greedy: {"-", "-", "version 3: 0", "locator 4: 2 0 3", swap, "write 0 0", wrote},
		}},
	} {
		for _, manager := range managers() {
			s := by(t, manager, 5)
			a := s.begin(0, q.words)
			a.ends(q.want[manager]...)
			a.is(api.Committed, 0)
		}
	}
}

// P14.2: sums go round in 64 bits, and are told behind each operation; a transaction begins at 0.
func TestSums(t *testing.T) {
	const most = 1<<63 - 1
	s := by(t, api.Polite, most, -most-1)
	a := s.begin(0, "r0 +1 w0 r1 -1 w1")
	a.run()
	a.is(api.Committed, 0)
	s.values(-most-1, most)
	a = s.begin(0, "+127 +127 -128 =-7 +3")
	a.ends("sum: 127", "sum: 254", "sum: 126", "sum: -7", "sum: -4", "status 9: 2, commit, is: 2 0")
}

// P14.2: a second Read of an object that was read needs nobody, and tells the reading's value, whoever committed since.
func TestReadOfAReading(t *testing.T) {
	for _, manager := range managers() {
		s := by(t, manager, 5)
		a := s.begin(0, "r0 +1 r0 r0")
		n := map[int]int{api.Polite: 2, api.Karma: 3, api.Stamp: 2, api.Greedy: 3}[manager]
		a.quiet(n)
		a.makes("sum: 6")
		s.commits(0, 70)
		a.makes("sum: 5, read 0 5", "read 0 5")
		a.readings(reads.Reading{Obj: 0, Version: 0, Val: 5})
		a.owns()
	}
}

// P14.2: so does a Read of an object of its own: it tells what was written last, also behind a reading of it, and behind a release.
func TestReadOfOnesOwn(t *testing.T) {
	s := by(t, api.Polite, 5)
	a := s.begin(0, "=7 w0 =1 r0")
	a.quiet(6)
	a.makes("sum: 1", "sum: 7, read 0 7")
	a.readings()
	a.owns(reads.Own{Obj: 0, Locator: 4, Version: 3, Val: 7})
	a.ends("status 2: 2, values: [7], commit, is: 2 0")

	s = by(t, api.Polite, 5)
	a = s.begin(0, "r0 +1 w0 r0 x0 r0")
	a.quiet(8)
	a.makes("read 0 6", "reading 0: 0 0 false, release 0", "read 0 6")
	a.owns(reads.Own{Obj: 0, Locator: 4, Version: 3, Val: 6})
	a.ends("status 2: 2, values: [6], commit, is: 2 0")
}

// P14.2: a Write of an object of its own: another version, another locator, whose Old is the first one's.
func TestWriteOfOnesOwn(t *testing.T) {
	for _, q := range []struct{ manager, ahead, behind int }{{api.Polite, 1, 0}, {api.Karma, 1, 1}, {api.Stamp, 1, 0}, {api.Greedy, 2, 0}} {
		s := by(t, q.manager, 5)
		a := s.begin(0, "=7 w0 +1 w0 r0")
		a.quiet(1 + q.ahead + 3 + q.behind + 1)
		a.owns(reads.Own{Obj: 0, Locator: 4, Version: 3, Val: 7})
		a.makes("sum: 8")
		for range q.ahead {
			a.makes("-")
		}
		a.makes("version 5: 8", "locator 6: 2 0 5", "cell 0: 6, own 0: 6 5 8 false true")
		for range q.behind {
			a.makes("priority 2: 2, raised: 2")
		}
		a.ends("write 0 8", "read 0 8", "status 2: 2, values: [8], commit, is: 2 0")
	}
}

// P14.2: a Write of an object that was read: its reading isn't looked at any more, nor claimed.
func TestWriteOfAReading(t *testing.T) {
	s := by(t, api.Polite, 5, 6)
	a := s.begin(0, "r0 r1 w0")
	a.quiet(2)
	a.makes("-", "-", "sum: 6, reading 1: 2 6 true, read 1 6")
	// Load, version, locator, swap, one look at object 1, alive.
	a.makes("-", "version 5: 6", "locator 6: 4 0 5", "cell 0: 6, own 0: 6 5 6 false true", "-", "write 0 6")
	// Object 1 alone is claimed.
	a.ends("-", "locator 7: 4 2 2", "cell 1: 7, own 1: 7 2 6 true true", "status 4: 2, values: [6 6], commit, is: 2 0")
}

// P14.2: a Write of an object of which an older version was read: another one committed between.
func TestWriteOfAnOlderReading(t *testing.T) {
	for _, manager := range managers() {
		s := by(t, manager, 5)
		a := s.begin(0, "r0 w0")
		n := map[int]int{api.Polite: 2, api.Karma: 3, api.Stamp: 2, api.Greedy: 3}[manager]
		a.quiet(n)
		s.commits(0, 5) // the same value, but another version
		if manager == api.Greedy {
			a.makes("-")
		}
		a.ends("-", "-", "status 2: 3, abort 1, is: 3 1") // load, the owner's status, its own one
		a.values(5)
	}
	// The owner of what was read committed, and an aborted one came between: the version is the same, the locator not.
	s := by(t, api.Polite, 5)
	s.commits(0, 50) // the records 2, 3, 4
	a := s.begin(0, "r0 w0")
	a.makes("-", "-", "sum: 50, reading 0: 3 50 true, read 0 50")
	other := s.descriptor(1, 0, 1, 7, 0)
	s.holds(other, 0, 60)
	s.turn(other, api.Aborted)
	a.makes("-", "-", "version 9: 50", "locator 10: 5 3 9")
}

// P14.2: a Write of an object whose reading was released isn't asked for the version that was read.
func TestWriteOfAReleasedReading(t *testing.T) {
	s := by(t, api.Polite, 5)
	a := s.begin(0, "r0 x0 w0")
	a.quiet(2)
	a.makes("reading 0: 0 0 false, release 0")
	s.commits(0, 70)
	a.ends("-", "-", "version 6: 5", "locator 7: 2 4 6", "cell 0: 7, own 0: 7 6 5 false true", "write 0 5", "status 2: 2, values: [5], commit, is: 2 0")
}

// P14.2: a Read of an object whose reading was released opens it again, and tells what it is now; the reading stands behind the others.
func TestReadOfAReleasedReading(t *testing.T) {
	s := by(t, api.Polite, 5, 6)
	a := s.begin(0, "r0 r1 x0 r0")
	a.quiet(5)
	a.makes("reading 0: 0 0 false, release 0")
	s.commits(0, 70)
	a.makes("-", "-", "-", "sum: 70, reading 0: 6 70 true, read 0 70") // load, the owner's status, a look at 1, alive
	a.readings(reads.Reading{Obj: 1, Version: 2, Val: 6}, reads.Reading{Obj: 0, Version: 6, Val: 70})
}

// P14.2: a Release of an object without a reading notes nothing: not touched, its own, or released ahead.
func TestReleaseOfNothing(t *testing.T) {
	s := by(t, api.Polite, 5, 6)
	a := s.begin(0, "x0 w0 x0 r1 x1 x1 x0")
	a.makes("-")
	a.quiet(5)
	a.makes("-")
	a.quiet(2)
	a.ends("reading 1: 0 0 false, release 1", "-", "-", "status 4: 2, values: [0 6], commit, is: 2 0")
	a.owns(reads.Own{Obj: 0, Locator: 6, Version: 5, Val: 0})
}

// P14.2: at the commit readings are claimed, in the order in which they were read, not those that are its own, or were released.
func TestClaims(t *testing.T) {
	s := by(t, api.Polite, 5, 6, 7, 8)
	a := s.begin(0, "r3 r1 r0 r2 x1 w0")
	for _, done := range []string{"read 3 8", "read 1 6", "read 0 5", "read 2 7", "release 1", "write 0 7"} {
		s.till(a, done)
	}
	a.readings(reads.Reading{Obj: 3, Version: 6, Val: 8}, reads.Reading{Obj: 0, Version: 0, Val: 5}, reads.Reading{Obj: 2, Version: 4, Val: 7})
	a.ends(
		"-", "locator 11: 8 6 6", "cell 3: 11, own 3: 11 6 8 true true",
		"-", "locator 12: 8 4 4", "cell 2: 12, own 2: 12 4 7 true true",
		"status 8: 2, values: [7 6 7 8], commit, is: 2 0",
	)
	a.owns(
		reads.Own{Obj: 0, Locator: 10, Version: 9, Val: 7},
		reads.Own{Obj: 3, Locator: 11, Version: 6, Val: 8, Claimed: true},
		reads.Own{Obj: 2, Locator: 12, Version: 4, Val: 7, Claimed: true},
	)
	a.readings(reads.Reading{Obj: 3, Version: 6, Val: 8}, reads.Reading{Obj: 0, Version: 0, Val: 5}, reads.Reading{Obj: 2, Version: 4, Val: 7})
}

// till makes steps up to the one that notes an event.
func (s *scene) till(a *actor, event string) {
	s.Helper()
	for range 100 {
		n := len(s.Trace())
		if !a.Step() {
			break
		}
		if l := s.Trace(); len(l) > n && a.event(l[n]) == event {
			return
		}
	}
	s.Fatalf("no %s", event)
}

// P14.2: claims behind a foe that committed, and behind one that was aborted: of the version, or of another one.
func TestClaimOfAnOlderReading(t *testing.T) {
	for _, manager := range managers() {
		for _, to := range []api.Status{api.Committed, api.Aborted} {
			s := by(t, manager, 5)
			a := s.begin(0, "r0")
			s.till(a, "read 0 5")
			other := s.descriptor(1, 0, 1, 7, 0)
			s.holds(other, 0, 60)
			s.turn(other, to)
			if manager == api.Greedy {
				a.makes("-")
			}
			a.makes("-", "-")
			if to == api.Committed {
				a.ends("status 2: 3, abort 1, is: 3 1")
				a.values(60)
			} else {
				a.ends("locator 6: 2 0 0", "cell 0: 6, own 0: 6 0 5 true true", "status 2: 2, commit, is: 2 0")
				a.values(5)
			}
		}
	}
}

// P14.2: behind each opening all readings are looked at, in order, each with one step more, if somebody owns its object.
func TestLooks(t *testing.T) {
	s := by(t, api.Polite, 5, 6, 7, 8)
	a := s.begin(0, "r0 r1 r2 w3")
	a.makes("-", "sum: 5, reading 0: 0 5 true, read 0 5")
	a.makes("-", "-", "sum: 6, reading 1: 2 6 true, read 1 6")
	a.makes("-", "-", "-", "sum: 7, reading 2: 4 7 true, read 2 7")
	// Somebody holds 0, and somebody who was aborted held 2: both resolve to what was read.
	s.holds(s.descriptor(1, 0, 1, 7, 0), 0, 50)
	gone := s.descriptor(1, 0, 2, 7, 0)
	s.holds(gone, 2, 70)
	s.turn(gone, api.Aborted)
	a.makes("-", "version 15: 7", "locator 16: 8 6 15", "cell 3: 16, own 3: 16 15 7 false true")
	a.makes("-", "-", "-", "-", "-", "write 3 7") // 0 and its owner, 1, 2 and its owner, alive
}

// P14.2: a reading whose object's owner committed: at each place of several, by each manager, behind a Read and a Write.
func TestLooksThatFail(t *testing.T) {
	for _, manager := range managers() {
		for _, last := range []string{"r3", "w3"} {
			for bad := range 3 {
				s := by(t, manager, 5, 6, 7, 8)
				a := s.begin(0, "r0 r1 r2 "+last)
				s.till(a, "read 2 7")
				s.commits(bad, 99)
				n := 1 // load
				if manager == api.Greedy {
					n++
				}
				if last == "w3" {
					n += 3
				}
				if manager == api.Karma {
					n++
				}
				a.quiet(n + bad + 2) // the readings ahead, the bad one, and its owner
				a.is(api.Active, 0)
				a.ends("status 8: 3, abort 1, is: 3 1")
			}
		}
	}
}

// P14.2: a reading is looked at as it is when the look comes: a commit ahead of it is seen, one behind it isn't.
func TestLooksInTime(t *testing.T) {
	for at := range 5 {
		s := by(t, api.Polite, 5, 6)
		a := s.begin(0, "r0 r1")
		a.quiet(2) // 0 is read
		other := s.descriptor(1, 0, 1, 7, 0)
		s.holds(other, 0, 60)
		a.quiet(at) // load of 1, look at 0, its owner, alive
		if at == 4 {
			s.turn(other, api.Committed)
			a.is(api.Active, 0)
			continue
		}
		s.turn(other, api.Committed)
		a.quiet(4 - at)
		if at < 3 {
			// Ahead of the owner's status: it aborts itself in the step in which it would have been alive.
			a.is(api.Aborted, api.Invalid)
		} else {
			a.is(api.Active, 0)
			a.readings(reads.Reading{Obj: 0, Version: 0, Val: 5}, reads.Reading{Obj: 1, Version: 2, Val: 6})
		}
	}
}

// P14.2: between the look at a locator and the look at its owner another one swaps: the owner of the one that was loaded is asked.
func TestLookOfALoadedLocator(t *testing.T) {
	s := by(t, api.Polite, 5, 6)
	a := s.begin(0, "r0 r1")
	a.quiet(2)
	first := s.descriptor(1, 0, 1, 7, 0)
	s.holds(first, 0, 60)
	a.quiet(2) // load of 1, look at 0
	s.turn(first, api.Aborted)
	s.commits(0, 70)
	a.makes("-", "sum: 6, reading 1: 2 6 true, read 1 6") // the first owner's status, alive
}
