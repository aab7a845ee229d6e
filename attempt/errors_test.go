package attempt_test

import (
	"math"
	"slices"
	"testing"

	"quarrel/api"
	"quarrel/attempt"
	"quarrel/floor"
	"quarrel/reads"
)

// refused asks for an attempt that there can't be, and that nothing was done.
func (s *scene) refused(f *floor.Floor, thread, id int, l []api.Op, m *attempt.Memory, want api.Errno) {
	s.Helper()
	records, events := s.Arena().Len(), len(s.Trace())
	a, e := attempt.Begin(f, thread, 0, 1, id, 0, l, m)
	if a != nil || e != want {
		s.Errorf("Begin(%v, %d, %d, %v, %v): %v, error %d, not %d", f != nil, thread, id, l, m != nil, a != nil, e, want)
	}
	if s.Arena().Len() != records || len(s.Trace()) != events {
		s.Error("Begin, refused, did something")
	}
	if m != nil && *m != *attempt.Fresh() {
		s.Errorf("Begin, refused, changed the memory: %+v", *m)
	}
}

// wrong are lists that are no transactions of two objects.
func wrong() [][]api.Op {
	l := [][]api.Op{
		nil, {}, ops("r2"), ops("w2"), ops("x2"), ops("r0 w1 r2"), ops("=128"), ops("-129"), ops("+128"),
		{{}}, {{Kind: 6}}, {{Kind: -1}}, {{Kind: api.Read, Obj: -1}}, {{Kind: api.Read, Arg: 1}}, {{Kind: api.Set, Obj: 1}},
		ops("r0 r0 r0 r0 r0 r0 r0 r0 r0"),
		append(ops("r0"), api.Op{}),
	}
	for _, n := range numbers() {
		if n < 0 || n > 5 {
			l = append(l, []api.Op{{Kind: n}}, []api.Op{{Kind: api.Write, Obj: n}}, []api.Op{{Kind: api.Release, Obj: n}})
		}
		if n < -128 || n > 127 {
			l = append(l, []api.Op{{Kind: api.Set, Arg: int64(n)}}, []api.Op{{Kind: api.Add, Arg: int64(n)}})
		}
	}
	return l
}

// P14.1: a nil floor, a nil memory, and both.
func TestNilArguments(t *testing.T) {
	s := by(t, api.Polite, 5, 6)
	id := s.descriptor(0, 0, 1, 0, 0)
	s.refused(nil, 0, id, ops("r0"), attempt.Fresh(), api.ErrNone)
	s.refused(s.Floor, 0, id, ops("r0"), nil, api.ErrNone)
	s.refused(nil, 0, id, ops("r0"), nil, api.ErrNone)
}

// P14.1: threads that there are, and that there aren't, of one to six.
func TestThreads(t *testing.T) {
	for threads := 1; threads <= api.MaxThreads; threads++ {
		c := config(api.Polite, 2)
		c.Threads = threads
		s := on(t, c, nil, 5, 6)
		id := s.descriptor(0, 0, 1, 0, 0)
		for _, thread := range append(numbers(), 4, 5, 6, threads-1, threads) {
			if thread < 0 || thread >= threads {
				s.refused(s.Floor, thread, id, ops("r0"), attempt.Fresh(), api.ErrArg)
				continue
			}
			a, e := attempt.Begin(s.Floor, thread, 0, 1, id, 0, ops("=1"), attempt.Fresh())
			if e != api.OK || a == nil {
				t.Fatalf("Begin of the thread %d of %d: error %d", thread, threads, e)
			}
			a.Step()
			a.Step()
			if l := s.Trace(); l[len(l)-1].Thread != thread {
				t.Errorf("the thread %d: %+v", thread, l[len(l)-1])
			}
		}
	}
}

// P14.1: numbers that are descriptors', and those that aren't: versions, locators, records of other tables, and none.
func TestDescriptors(t *testing.T) {
	s := by(t, api.Polite, 5, 6)
	for _, n := range append(numbers(), 4, 5, 199, 200) {
		s.refused(s.Floor, 0, n, ops("r0"), attempt.Fresh(), api.ErrArg)
	}
	// A record of the Kind Descriptor that is none of the table.
	other, e := s.Arena().Put(api.Rec{Kind: api.Descriptor, Attempt: 1})
	if e != api.OK {
		t.Fatalf("Put: error %d", e)
	}
	s.refused(s.Floor, 0, other, ops("r0"), attempt.Fresh(), api.ErrArg)
	id := s.descriptor(0, 0, 1, 0, 0)
	for _, n := range []int{id - 1, id + 1} {
		s.refused(s.Floor, 0, n, ops("r0"), attempt.Fresh(), api.ErrArg)
	}
	if a, e := attempt.Begin(s.Floor, 0, 0, 1, id, 0, ops("r0"), attempt.Fresh()); a == nil || e != api.OK {
		t.Errorf("Begin: error %d", e)
	}
	// One that ended is a descriptor, too.
	for _, to := range []api.Status{api.Committed, api.Aborted} {
		id := s.descriptor(0, 0, 1, 0, 0)
		s.turn(id, to)
		a, e := attempt.Begin(s.Floor, 0, 0, 1, id, 0, ops("=1"), attempt.Fresh())
		if a == nil || e != api.OK {
			t.Fatalf("Begin: error %d", e)
		}
		if status, reason := a.Status(); status != api.Active || reason != 0 {
			t.Errorf("Status: %d, %d", status, reason)
		}
		a.Step()
		a.Step()
		if status, reason := a.Status(); status != api.Aborted || reason != api.Enemy || a.Step() {
			t.Errorf("Status: %d, %d", status, reason)
		}
	}
}

// P14.1: operations that are no transaction.
func TestNoTransaction(t *testing.T) {
	s := by(t, api.Polite, 5, 6)
	id := s.descriptor(0, 0, 1, 0, 0)
	for _, l := range wrong() {
		s.refused(s.Floor, 0, id, l, attempt.Fresh(), api.ErrForm)
	}
	// Objects are the floor's: what is one of eight is none of two.
	eight := by(t, api.Polite, 0, 0, 0, 0, 0, 0, 0, 0)
	a, e := attempt.Begin(eight.Floor, 0, 0, 1, eight.descriptor(0, 0, 1, 0, 0), 0, ops("r7 w2 x7"), attempt.Fresh())
	if a == nil || e != api.OK {
		t.Errorf("Begin: error %d", e)
	}
}

// P14.1: of several errors the first one that the chapter names: ErrNone, ErrArg, ErrForm.
func TestFirstError(t *testing.T) {
	s := by(t, api.Polite, 5, 6)
	id := s.descriptor(0, 0, 1, 0, 0)
	for _, thread := range []int{0, -1, 3} {
		for _, n := range []int{id, id + 1, -1} {
			for _, l := range [][]api.Op{ops("r0"), nil, ops("r2")} {
				s.refused(nil, thread, n, l, attempt.Fresh(), api.ErrNone)
				s.refused(nil, thread, n, l, nil, api.ErrNone)
				s.refused(s.Floor, thread, n, l, nil, api.ErrNone)
				if thread != 0 || n != id {
					s.refused(s.Floor, thread, n, l, attempt.Fresh(), api.ErrArg)
				} else if !slices.Equal(l, ops("r0")) {
					s.refused(s.Floor, thread, n, l, attempt.Fresh(), api.ErrForm)
				}
			}
		}
	}
}

// P14.1: transactions, numbers and stamps of any number, which events tell.
func TestAnyNumbers(t *testing.T) {
	for _, manager := range managers() {
		for _, n := range numbers() {
			s := by(t, manager, 5)
			id := s.descriptor(0, 0, 1, 0, 0)
			a, e := attempt.Begin(s.Floor, 0, n, n, id, n, ops("r0 +1 w0"), attempt.Fresh())
			if a == nil || e != api.OK {
				t.Fatalf("Begin of %d: error %d", n, e)
			}
			for a.Step() {
			}
			if l := s.Trace(); len(l) != 3 || l[2] != (api.Event{Kind: api.EvCommit, Txn: n, Attempt: n}) {
				t.Errorf("Trace: %+v", s.Trace())
			}
			s.values(6)
		}
	}
}

// P14.2: a stamp below 0 is no senior's: the gate's swap fails again and again, each time by a step that ends.
func TestStampBelowZero(t *testing.T) {
	s := by(t, api.Greedy, 5)
	m := attempt.Fresh()
	m.Troubled = true
	a := s.actor(0, 0, 0, "r0", m)
	b, e := attempt.Begin(s.Floor, 0, 0, 1, a.id, -1, ops("r0"), m)
	if e != api.OK {
		t.Fatalf("Begin: error %d", e)
	}
	for range 100 {
		if !b.Step() {
			t.Fatal("no step")
		}
	}
	if status, _ := b.Status(); status != api.Active || s.sight().Some {
		t.Errorf("Status: %d, %+v", status, s.sight())
	}
	// An attempt of such a stamp is elder than any senior, too, and claims in vain.
	s.senior(0, 1)
	for range 100 {
		b.Step()
	}
	if status, _ := b.Status(); status != api.Active || s.sight().Thread != 1 {
		t.Errorf("Status: %d, %+v", status, s.sight())
	}
}

// P14.2: of a nil attempt each call tells nothing.
func TestNilAttempt(t *testing.T) {
	var a *attempt.Attempt
	for range 2 {
		if a.Step() {
			t.Error("Step: true")
		}
		if status, reason := a.Status(); status != 0 || reason != 0 {
			t.Errorf("Status: %d, %d", status, reason)
		}
		if a.Sum() != 0 || a.Steps() != 0 || a.Set() != nil {
			t.Errorf("Sum: %d, Steps: %d, Set: %v", a.Sum(), a.Steps(), a.Set())
		}
	}
	// So of one that was refused.
	a, _ = attempt.Begin(nil, 0, 0, 1, 0, 0, nil, nil)
	if a.Step() || a.Steps() != 0 || a.Set() != nil {
		t.Error("a refused one does something")
	}
}

// P14.1: the operations that were handed in are as they were, their spare room too, and aren't kept: what becomes of them behind any step plays no part.
func TestHandedIn(t *testing.T) {
	for at := range 10 {
		s := by(t, api.Polite, 5, 6)
		id := s.descriptor(0, 0, 1, 0, 0)
		l := ops("r0 +1 w0 =9 w1")
		was := slices.Clone(l)
		a, e := attempt.Begin(s.Floor, 0, 0, 1, id, 0, l[:3], attempt.Fresh())
		if e != api.OK {
			t.Fatalf("Begin: error %d", e)
		}
		for range at {
			a.Step()
		}
		if !slices.Equal(l, was) {
			t.Errorf("handed in, and changed: %+v", l)
		}
		for i := range l {
			l[i] = api.Op{Kind: api.Write, Obj: 1}
		}
		for a.Step() {
		}
		if s.values(6, 6); a.Steps() != 9 {
			t.Errorf("%d steps", a.Steps())
		}
		for _, o := range l {
			if o != (api.Op{Kind: api.Write, Obj: 1}) {
				t.Errorf("handed in, and changed: %+v", l)
			}
		}
	}
	// So of those that are refused.
	s := by(t, api.Polite, 5, 6)
	bad := ops("r0 r7 w1")
	s.refused(s.Floor, 0, s.descriptor(0, 0, 1, 0, 0), bad[:2], attempt.Fresh(), api.ErrForm)
	if !slices.Equal(bad, ops("r0 r7 w1")) {
		t.Errorf("handed in, and changed: %+v", bad)
	}
}

// P14.2: Set is the set itself, each time: what is done to it the attempt goes by; lists that it tells are others.
func TestTheSetItself(t *testing.T) {
	s := by(t, api.Polite, 5, 6)
	a := s.begin(0, "r0 r1 r0")
	if a.Set() != a.Set() {
		t.Error("another set at another time")
	}
	if e := a.Set().Add(reads.Reading{Obj: 0, Version: 0, Val: 44}); e != api.OK {
		t.Fatalf("Add: error %d", e)
	}
	a.makes("sum: 44, read 0 44", "-", "-", "sum: 6, reading 1: 2 6 true, read 1 6")
	l := a.Set().Readings()
	l[0], l[1] = reads.Reading{Obj: 3}, reads.Reading{Obj: 4}
	a.makes("sum: 44, read 0 44")
	if !a.Set().Drop(1) {
		t.Error("Drop: false")
	}
	a.ends("-", "locator 5: 4 0 0", "cell 0: 5, own 0: 5 0 44 true true", "status 4: 2, commit, is: 2 0")
}

// P14.2: a Write of an object of its own isn't asked for the version of a reading.
func TestOnesOwnIsNotAsked(t *testing.T) {
	s := by(t, api.Polite, 5)
	a := s.begin(0, "=7 w0 =8 w0")
	s.till(a, "write 0 7")
	if e := a.Set().Add(reads.Reading{Obj: 0, Version: 99, Val: 5}); e != api.OK {
		t.Fatalf("Add: error %d", e)
	}
	a.ends("sum: 8", "-", "version 5: 8", "locator 6: 2 0 5", "cell 0: 6, own 0: 6 5 8 false true", "write 0 8", "status 2: 2, values: [8], commit, is: 2 0")
}

// P14.2: a locator that nobody owns, of another version than the one that was read: a look, a Write and a claim find it out, without asking for an owner.
func TestNobodysLocator(t *testing.T) {
	for _, q := range []struct {
		words string
		ahead int
	}{{"r0 r1", 2}, {"r0 w0", 1}, {"r0", 1}} {
		s := by(t, api.Polite, 5, 6)
		a := s.begin(0, q.words)
		s.till(a, "read 0 5")
		at, _ := s.Cells().Load(0)
		v, _ := s.Cells().Version(60)
		n, e := s.Cells().Build(-1, v, v)
		if e != api.OK || !s.Cells().Swap(0, at, n) {
			t.Fatalf("Build: error %d, or no swap", e)
		}
		a.makes(dashes(q.ahead)...)
		a.ends("status 4: 3, abort 1, is: 3 1")
	}
}

// P14.2: what is told changes nothing: asked again and again, at each step, it goes as if nobody asked.
func TestAskedAlways(t *testing.T) {
	for _, manager := range managers() {
		quiet, asked := by(t, manager, 5, 6), by(t, manager, 5, 6)
		a, b := quiet.begin(0, "r0 +1 w1 r1 w0"), asked.begin(0, "r0 +1 w1 r1 w0")
		n := a.run()
		for range n {
			for range 3 {
				b.Status()
				b.Sum()
				b.Steps()
				b.Set().Owns()
				b.Set().Readings()
			}
			b.Step()
		}
		b.ended()
		if told := b.view().against(a.view()); told != "-" {
			t.Errorf("the manager %d: asked: %s", manager, told)
		}
	}
}

// P14.2: a cell whose number isn't a locator's: each call ends all the same.
func TestBadCell(t *testing.T) {
	for _, manager := range managers() {
		for _, n := range []int{0, 2, 4, 199, -1, math.MaxInt, math.MinInt} {
			for _, words := range []string{"r0", "w0", "r1 r0", "r1 w0", "w1 r0 w0"} {
				s := by(t, manager, 5, 6)
				a := s.begin(0, words)
				at, _ := s.Cells().Load(0)
				if !s.Cells().Swap(0, at, n) {
					t.Fatal("Swap: false")
				}
				a.run()
				a.ended()
			}
			// Behind a reading, so that it is looked at.
			s := by(t, manager, 5, 6)
			a := s.begin(0, "r0 r1")
			s.till(a, "read 0 5")
			at, _ := s.Cells().Load(0)
			s.Cells().Swap(0, at, n)
			a.run()
			a.ended()
		}
	}
}
