package thread_test

import (
	"reflect"
	"slices"
	"testing"

	"quarrel/api"
	"quarrel/floor"
	"quarrel/thread"
)

// clone is what shares nothing with it.
func clone(all [][]api.Op) [][]api.Op {
	l := slices.Clone(all)
	for i := range l {
		l[i] = slices.Clone(l[i])
	}
	return l
}

// refused asks for a thread that there can't be, and that nothing was done, and what was handed in is as it was.
func (s *scene) refused(f *floor.Floor, no int, all [][]api.Op, want api.Errno) {
	s.Helper()
	before, pulses, handed := s.view(), s.pulses(), clone(all)
	a, e := thread.New(f, no, all)
	if a != nil || e != want {
		s.Errorf("New(%v, %d, %v): %v, error %d, not %d", f != nil, no, all, a != nil, e, want)
	}
	if told := s.view().against(before); told != "-" || !slices.Equal(s.pulses(), pulses) {
		s.Errorf("New, refused, did something: %s", told)
	}
	if !reflect.DeepEqual(all, handed) {
		s.Errorf("handed in, and changed: %v, not %v", all, handed)
	}
	if a.Step() || !a.Done() {
		s.Error("a refused one does something")
	}
}

// none are lists that are no transactions of two objects.
func none() [][]api.Op {
	l := [][]api.Op{
		nil, {}, ops("r2"), ops("w2"), ops("x2"), ops("r0 w1 r2"), ops("=128"), ops("-129"), ops("+128"), ops("=-129"),
		{{}}, {{Kind: 6}}, {{Kind: -1}}, {{Kind: api.Read, Obj: -1}}, {{Kind: api.Read, Arg: 1}}, {{Kind: api.Set, Obj: 1}},
		ops("r0 r0 r0 r0 r0 r0 r0 r0 r0"),
		append(ops("r0"), api.Op{}),
	}
	for _, n := range numbers() {
		if n < 0 || n > 5 {
			l = append(l, []api.Op{{Kind: n}}, []api.Op{{Kind: api.Write, Obj: n}}, []api.Op{{Kind: api.Release, Obj: n}})
		}
		if n < -128 || n > 127 {
			l = append(l, []api.Op{{Kind: api.Set, Arg: int64(n)}}, []api.Op{{Kind: api.Add, Arg: int64(n)}})
		}
	}
	return l
}

// many are so many transactions, each of which may be.
func many(n int) [][]api.Op {
	var all [][]api.Op
	for i := range n {
		all = append(all, []api.Op{{Kind: api.Set, Arg: int64(i % 100)}, {Kind: api.Write, Obj: i % 2}})
	}
	return all
}

// P15.1: a nil floor, whatever else there is.
func TestNilFloor(t *testing.T) {
	s := by(t, api.Polite, 5, 6)
	for _, no := range numbers() {
		for _, all := range [][][]api.Op{nil, many(1), many(6), many(7), {nil}, {ops("r2")}} {
			s.refused(nil, no, all, api.ErrNone)
		}
	}
}

// P15.1: threads that there are, and that there aren't, of one to six; what a thread notes is of its number.
func TestThreads(t *testing.T) {
	for threads := 1; threads <= api.MaxThreads; threads++ {
		c := config(api.Polite, 2)
		c.Threads = threads
		s := on(t, c, 5, 6)
		for _, no := range append(numbers(), threads-1, threads, threads+1) {
			if no < 0 || no >= threads {
				s.refused(s.Floor, no, nil, api.ErrArg)
				s.refused(s.Floor, no, many(1), api.ErrArg)
				continue
			}
			s := on(t, c, 5, 6)
			a := s.thread(no, "=1")
			a.run()
			want := []api.Event{
				{Kind: api.EvBegin, Thread: no, Attempt: 1}, {Kind: api.EvCommit, Thread: no, Attempt: 1},
			}
			if !slices.Equal(s.Trace(), want) {
				t.Errorf("the thread %d: %+v", no, s.Trace())
			}
		}
	}
}

// P15.1: none, one and six transactions are a thread's; seven and more aren't.
func TestHowMany(t *testing.T) {
	for _, manager := range managers() {
		s := by(t, manager, 5, 6)
		for n := range 7 {
			before := s.view()
			a, e := thread.New(s.Floor, 0, many(n))
			if a == nil || e != api.OK {
				t.Fatalf("New of %d: error %d", n, e)
			}
			if told := s.view().against(before); told != "-" || s.Gate().Pulse(0) != 0 {
				t.Errorf("New did something: %s", told)
			}
			if a.Txn() != 0 || a.Try() != 0 || a.Commits() != 0 || a.Steps() != 0 || a.Done() != (n == 0) {
				t.Errorf("New of %d: %d, %d, %d, %d, %v", n, a.Txn(), a.Try(), a.Commits(), a.Steps(), a.Done())
			}
		}
		for _, n := range []int{7, 8, 9, 255, 256, 262, 4096} {
			s.refused(s.Floor, 0, many(n), api.ErrForm)
		}
	}
}

// P15.1: a list that is no transaction, at each place, alone and with others that are none.
func TestNoTransaction(t *testing.T) {
	s := by(t, api.Polite, 5, 6)
	for _, l := range none() {
		for n := 1; n <= 7; n++ {
			for at := range n {
				all := many(n)
				all[at] = l
				s.refused(s.Floor, 1, all, api.ErrForm)
			}
		}
		s.refused(s.Floor, 1, [][]api.Op{l, l}, api.ErrForm)
	}
	// Objects are the floor's: what is one of eight is none of two.
	eight := by(t, api.Polite, 0, 0, 0, 0, 0, 0, 0, 0)
	eight.thread(0, "r7 w2 x7", "w7").run()
	s.refused(s.Floor, 0, txns("r1", "r7"), api.ErrForm)
	eight.refused(eight.Floor, 0, txns("r7", "r8"), api.ErrForm)
}

// P15.1: of several errors the first one that the chapter names: ErrNone, ErrArg, ErrForm.
func TestFirstError(t *testing.T) {
	s := by(t, api.Polite, 5, 6)
	bad := [][][]api.Op{many(7), {nil}, txns("r0", "r2"), append(many(7), nil)}
	for _, no := range append(numbers(), 3) {
		for _, all := range append(bad, nil, many(2)) {
			s.refused(nil, no, all, api.ErrNone)
			if no < 0 || no >= 3 {
				s.refused(s.Floor, no, all, api.ErrArg)
			}
		}
		for _, all := range bad {
			if no >= 0 && no < 3 {
				s.refused(s.Floor, no, all, api.ErrForm)
			}
		}
	}
}

// P15.1: a floor without tickets, or without room, or whose other threads went on, may have a thread all the same.
func TestNewOnAnyFloor(t *testing.T) {
	for _, manager := range managers() {
		s := left(t, manager, 0, 0, 5)
		s.thread(2, "w0").run()
		s.story("refuse 2.0.0 5")
		s = by(t, manager, 5)
		s.thread(1, "=7 w0").run()
		b := s.thread(1, "r0 +1 w0") // a second one of that number begins anew
		b.at(0, 0, 0, false)
		if b.Steps() != 0 {
			t.Errorf("Steps: %d", b.Steps())
		}
		b.run()
		s.values(8)
	}
}

// P15.2: of a nil thread each call tells nothing, but that it is done.
func TestNilThread(t *testing.T) {
	var a *thread.Thread
	for range 2 {
		if a.Step() || !a.Done() {
			t.Errorf("Step, or not Done")
		}
		if a.Txn() != 0 || a.Try() != 0 || a.Commits() != 0 || a.Steps() != 0 {
			t.Errorf("Txn: %d, Try: %d, Commits: %d, Steps: %d", a.Txn(), a.Try(), a.Commits(), a.Steps())
		}
	}
}

// P15.1: what was handed in is as it was, its spare room too, and isn't kept: what becomes of it behind any step plays no part.
func TestHandedIn(t *testing.T) {
	for _, manager := range managers() {
		for at := range 30 {
			s := by(t, manager, 5, 6)
			all := txns("r0 +1 w0 =9 w1", "=8 w1 =7 w0", "r1 w0 w1", "=3")
			all[0], all[1] = all[0][:3], all[1][:2]
			was := clone(all[:4])
			was[0], was[1] = slices.Clone(all[0][:5]), slices.Clone(all[1][:4])
			a, e := thread.New(s.Floor, 0, all[:2])
			if e != api.OK {
				t.Fatalf("New: error %d", e)
			}
			for range at {
				a.Step()
			}
			now := [][]api.Op{all[0][:5], all[1][:4], all[2], all[3]}
			if !reflect.DeepEqual(now, was) || len(all[0]) != 3 || len(all[1]) != 2 {
				t.Errorf("handed in, and changed: %v, not %v", now, was)
			}
			other := api.Op{Kind: api.Write, Obj: 1}
			for i := range now {
				for j := range now[i] {
					now[i][j] = other
				}
			}
			for i := range all {
				all[i] = nil
			}
			for a.Step() {
			}
			s.values(6, 8)
			if a.Commits() != 2 || a.Txn() != 2 {
				t.Errorf("%d commits, %d transactions", a.Commits(), a.Txn())
			}
			for i := range now {
				for j := range now[i] {
					if now[i][j] != other {
						t.Errorf("handed in, and changed: %v", now)
					}
				}
			}
		}
	}
}

// P15.1: one list may be handed in as several transactions, and to several threads.
func TestHandedInTwice(t *testing.T) {
	s := by(t, api.Karma, 5)
	l := ops("r0 +1 w0")
	all := [][]api.Op{l, l, l}
	var threads []*thread.Thread
	for no := range 3 {
		a, e := thread.New(s.Floor, no, all)
		if e != api.OK {
			t.Fatalf("New: error %d", e)
		}
		threads = append(threads, a)
	}
	for _, a := range threads {
		for a.Step() {
		}
	}
	s.values(14)
}
