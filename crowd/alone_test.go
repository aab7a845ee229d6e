package crowd_test

import (
	"slices"
	"testing"

	"quarrel/api"
)

// most is how many steps a thread may take alone for the transactions that are left to it: of each, a hundred times its operations squared, its operations times the wait, and one.
func (s scene) most(l laid, no int) int {
	n := 0
	for _, txn := range l.all[no][s.Thread(no).Txn():] {
		k := len(txn)
		n += 100 * (k*k + k*l.c.Wait + 1)
	}
	return n
}

// goes picks one thread alone till it is done, and asks that it ends in time, that nobody else made a step, and, if room and tickets last, that all its transactions committed.
func (s scene) goes(l laid, no int, lasts bool) {
	s.t.Helper()
	pulses, steps := s.pulses(), s.Steps()
	n := s.alone(no, s.most(l, no))
	pulses[no] += n
	s.beats(pulses...)
	if s.Steps() != steps+n || s.Thread(no).Txn() != len(l.all[no]) {
		s.t.Errorf("%d steps behind %d, of which %d alone; the transaction %d", s.Steps(), steps, n, s.Thread(no).Txn())
	}
	if lasts && s.Thread(no).Commits() != len(l.all[no]) {
		s.t.Errorf("%+v: the thread %d, picked alone, committed %d of %d", l, no, s.Thread(no).Commits(), len(l.all[no]))
	}
}

// P16.4: of three threads, two of which go on so far and not any more, each one that is picked alone commits all its transactions: whether they share objects or not.
func TestAloneFromEachState(t *testing.T) {
	for _, manager := range managers() {
		for _, words := range [][]string{
			{"r0 w1", "=3 w1 w0", "r0 +1 w0/r1 +1 w1"},          // in each other's way
			{"r0 r1 w0 w1", "r1 r0 w1 w0", "w0 r1 x1 w1/r0"},    // crosswise
			{"r0 +1 w0", "r1 +1 w1 r1", "=4 +4 x0/=5 x1 +1"},    // no object is shared
			{"r0 r1 =3", "r1 r0 +4", "r0 r1 r0"},                // read alone
			{"w0/w1/w0", "w1/w0/w1", "w0 w1/w1 w0 w1/r0 r1 w0"}, // written alone
			{"r0 x0 r1 x1 w0", "r1 x1 w1 w0 x0", "x0 w0 w1 x1"}, // released
		} {
			l := by(manager, words...)
			for i := range 20 {
				for j := range 20 {
					row := append(slices.Repeat([]int{0}, i), slices.Repeat([]int{1}, j)...)
					for no := range 3 {
						s := l.crowd(t)
						s.Run(row...)
						if s.goes(l, no, true); t.Failed() {
							t.Fatalf("the manager %d, %v, %d and %d", manager, words, i, j)
						}
					}
				}
			}
		}
	}
}

// P16.4: from thrown states on, with room and tickets enough or too few, each thread that is picked alone ends all its transactions, and the others that behind it.
func TestAloneFromThrownStates(t *testing.T) {
	held, seniors := 0, 0
	for seed := range 250 {
		d := dice(seed*6271 + 1)
		few := seed%3 == 0
		l := d.laid(few)
		row := d.picks(l.c.Threads, d.to(500))
		for no := range l.c.Threads {
			s := l.crowd(t)
			s.Run(row...)
			h, senior, _ := s.others(no)
			held, seniors = held+h, seniors+senior
			for i := range l.c.Threads {
				if s.goes(l, (no+i)%l.c.Threads, !few); t.Failed() {
					t.Fatalf("the seed %d, the thread %d first", seed, no)
				}
			}
			s.inOrder(l)
			s.over()
		}
	}
	if held < 100 || seniors < 10 {
		t.Errorf("of all states %d with objects that are held, %d with a senior: too few to tell", held, seniors)
	}
}

// others tells how many attempts of other threads hold an object, how many are the senior, and how many wait.
func (s scene) others(no int) (held, seniors, waiting int) {
	f := s.Floor()
	for obj := range f.Cells().Objects() {
		at, _ := f.Cells().Load(obj)
		l, _ := f.Cells().Locator(at)
		if r, e := f.Table().Rec(l.Owner); e == api.OK && r.Thread != no && f.Table().Status(l.Owner) == api.Active {
			held++
		}
	}
	if x := f.Gate().See(); x.Some && x.Thread != no {
		seniors++
	}
	for at := range f.Arena().Len() {
		if r, e := f.Table().Rec(at); e == api.OK && r.Thread != no && f.Table().Waiting(at) && f.Table().Status(at) == api.Active {
			waiting++
		}
	}
	return held, seniors, waiting
}

// P16.4: five threads that hold all objects but one between them, each at another place, and aren't picked any more: the sixth one goes on, and then each of them.
func TestAloneBehindHolders(t *testing.T) {
	for _, manager := range managers() {
		for wait := 1; wait <= api.MaxWait; wait += 21 {
			l := by(manager, "=10 w0", "=11 w1", "=12 w2", "=13 w3", "=14 w4", "r0 r1 r2 r3 r4 +1 w0 w5")
			l.c.Objects, l.c.Wait, l.first = 6, wait, []int64{0, 1, 2, 3, 4, 5}
			s := l.crowd(t)
			for no := range 5 {
				for {
					s.Pick(no)
					if e := s.Floor().Trace(); len(e) > 0 && e[len(e)-1].Kind == api.EvWrite && e[len(e)-1].Thread == no {
						break
					}
				}
			}
			if held, _, _ := s.others(5); held != 5 {
				t.Errorf("%d objects are held", held)
			}
			s.goes(l, 5, true)
			s.values(5, 1, 2, 3, 4, 5)
			for no := range 5 {
				s.goes(l, no, true)
			}
			s.values(10, 11, 12, 13, 14, 5)
			s.over()
		}
	}
}

// thrown picks threads at random till it is so: false, if it doesn't become so.
func (s scene) thrown(d dice, so func() bool) bool {
	for range 3000 {
		if so() {
			return true
		}
		s.Pick(d.to(s.Floor().Config().Threads))
	}
	return false
}

// quarrel is a crowd of three by Greedy, who get into each other's way.
func quarrel(seed int) laid {
	l := by(api.Greedy, "r0 r1 w0 w1", "r1 w1 r0 w0", "r0 +1 w1 w0")
	l.c.Wait = 1 + seed%8
	return l
}

// P16.4: behind a senior that isn't picked any more, elder or younger, each other one goes on.
func TestAloneBehindTheSenior(t *testing.T) {
	elder, younger := 0, 0
	for seed := range 120 {
		for no := range 3 {
			l := quarrel(seed)
			s := l.crowd(t)
			some := s.thrown(dice(seed*557+13), func() bool { return s.Floor().Gate().See().Some })
			x := s.Floor().Gate().See()
			if !some || x.Thread == no || s.Thread(no).Done() {
				continue
			}
			if s.stamp(no) > x.Stamp {
				elder++
			} else {
				younger++
			}
			if s.goes(l, no, true); t.Failed() {
				t.Fatalf("the seed %d, the thread %d", seed, no)
			}
			s.end()
			s.inOrder(l)
		}
	}
	if elder < 10 || younger < 10 {
		t.Errorf("behind an elder senior %d times, behind a younger one %d times: too few to tell", elder, younger)
	}
}

// P16.4: where others said that they wait, and then aren't picked any more, each one goes on.
func TestAloneBehindThoseThatWait(t *testing.T) {
	times := 0
	for seed := range 120 {
		for no := range 3 {
			l := quarrel(seed)
			s := l.crowd(t)
			if !s.thrown(dice(seed*911+2), func() bool { _, _, n := s.others(no); return n > 0 }) {
				continue
			}
			times++
			if s.goes(l, no, true); t.Failed() {
				t.Fatalf("the seed %d, the thread %d", seed, no)
			}
			s.end()
			s.inOrder(l)
		}
	}
	if times < 30 {
		t.Errorf("others waited %d times: too few to tell", times)
	}
}

// stamp is the one of a thread's attempt that began last.
func (s scene) stamp(no int) int {
	stamp := -1
	for _, e := range s.Floor().Trace() {
		if e.Kind == api.EvBegin && e.Thread == no {
			stamp = int(e.Val)
		}
	}
	return stamp
}

// P16.4: where tickets or room are at an end, whatever others hold of them, one that is picked alone ends all the same.
func TestAloneWithoutRoom(t *testing.T) {
	for _, manager := range managers() {
		for records := 4; records < 24; records++ {
			for tickets := range 5 {
				l := by(manager, "r0 +1 w0/=3 w1", "r1 w0 w1/r0 +2 w1", "r1 r0 w1/w0")
				l.c.Records, l.c.Tickets = records, tickets
				for ahead := range 12 {
					for no := range 3 {
						s := l.crowd(t)
						s.Rounds(ahead)
						s.goes(l, no, false)
						s.goes(l, (no+2)%3, false)
						s.goes(l, (no+1)%3, false)
						if s.inOrder(l); t.Failed() {
							t.Fatalf("the manager %d, %d records, %d tickets, %d rounds, the thread %d", manager, records, tickets, ahead, no)
						}
						s.over()
					}
				}
			}
		}
	}
}

// P16.4: where in turn they get into each other's way for long, each alone ends at once.
func TestAloneBehindAQuarrel(t *testing.T) {
	for rounds := range 200 {
		l := by(api.Polite, "r0 +1 w0/r1 w0", "=9 w1 r0 w0/=4 w0", "r0 r1 x0 w1")
		l.c.Records = 4096
		for no := range 3 {
			s := l.crowd(t)
			s.Run(0, 1, 1, 2, 0, 1, 1)
			s.Rounds(rounds)
			if s.goes(l, no, true); t.Failed() {
				t.Fatalf("%d rounds, the thread %d", rounds, no)
			}
		}
	}
}
