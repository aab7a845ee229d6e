package crowd_test

import (
	"fmt"
	"slices"
	"testing"

	"quarrel/api"
)

// P16.2: the example, by each manager and with many draws: two threads that add 1 to one object, 5: 7.
func TestExample(t *testing.T) {
	for _, manager := range managers() {
		for draw := -1; draw < 256; draw++ {
			l := by(manager, "r0 +1 w0", "r0 +1 w0")
			l.c.Objects, l.first, l.draws = 1, []int64{5}, nil
			if draw >= 0 {
				l.draws = []byte{byte(draw)}
			}
			s := l.crowd(t)
			n := s.Rounds(1000)
			s.values(7)
			s.at(n, 2)
			s.over()
		}
	}
}

// P16.2: 7 at the end, by any manager and whatever the first picks are.
func TestExampleByAnyPicks(t *testing.T) {
	for _, manager := range managers() {
		for row := range 1 << 12 {
			l := by(manager, "r0 +1 w0", "r0 +1 w0")
			s := l.crowd(t)
			s.Run(0, 0, 1, 1) // tickets and begins
			for i := range 12 {
				s.Pick(row >> i & 1)
			}
			s.alone(row&1, 1000)
			s.alone(1-row&1, 1000)
			s.at(s.Steps(), 2)
			s.values(7, 6)
		}
	}
}

// P16.2: a pick makes the thread's next step, and nobody else's; its pulse goes on by one.
func TestPick(t *testing.T) {
	for _, manager := range managers() {
		l := by(manager, "=5 w0", "", "r1 +1 w1", "=7")
		s := l.crowd(t)
		f, plain := l.floor(t)
		want := make([]int, 4)
		for i, no := range []int{2, 2, 0, 3, 2, 0, 0, 3, 0, 2, 2, 2, 3, 0, 2} {
			if !s.Pick(no) {
				t.Fatalf("the pick %d of %d: no step", i, no)
			}
			plain[no].Step()
			want[no]++
			s.beats(want...)
			s.at(i+1, plain[0].Commits()+plain[2].Commits()+plain[3].Commits(), 0, 2, 3)
			if got, other := told(s.Floor(), s.threads()), told(f, plain); got != other {
				t.Fatalf("the pick %d of %d:\n%s\nnot\n%s", i, no, got, other)
			}
			if s.Pick(1) {
				t.Error("a thread without transactions makes a step")
			}
		}
	}
}

// P16.2: a pick of a thread that there isn't makes no step, of each number of threads, ahead of the first step, between others, and behind the last one.
func TestPickOfNone(t *testing.T) {
	for threads := 1; threads <= api.MaxThreads; threads++ {
		s := by(api.Greedy, slices.Repeat([]string{"r0 +1 w0/=3"}, threads)...).crowd(t)
		for range 3 {
			before := s.told()
			for _, no := range append(numbers(), threads, threads+1, -threads, -threads-1) {
				if no >= 0 && no < threads {
					continue
				}
				if s.Pick(no) || s.Run(no) != 0 || s.Run(no, no, no) != 0 || s.Thread(no) != nil {
					t.Errorf("of %d threads there is one of the number %d", threads, no)
				}
			}
			s.same(before, "picks of no thread")
			s.Rounds(5)
		}
		s.end()
		if s.Run(-1, threads) != 0 {
			t.Error("a step behind all")
		}
	}
}

// P16.2: a thread that is done makes no step, as often as it is picked, and others go on.
func TestPickOfOneThatIsDone(t *testing.T) {
	for _, manager := range managers() {
		leave := 0
		if manager == api.Greedy {
			leave = 1
		}
		s := by(manager, "=5", "x0/=2", "").crowd(t)
		s.made(s.Run(0, 0, 0, 0, 0, 0, 0), 4+leave)
		s.at(4+leave, 1, 1)
		before := s.told()
		for range 3 {
			if s.Pick(0) || s.Pick(2) {
				t.Error("one that is done makes a step")
			}
		}
		s.same(before, "picks of one that is done")
		// Between others it changes nothing of them.
		s.made(s.Run(0, 1, 2, 0, 1, 9, 1, -1, 0), 3)
		s.beats(4+leave, 3, 0)
		s.made(s.Run(slices.Repeat([]int{0, 1}, 20)...), 5+2*leave)
		s.at(12+3*leave, 3)
		s.over()
	}
}

// P16.2: no picks make no step.
func TestRunOfNone(t *testing.T) {
	s := by(api.Polite, "=5", "r0").crowd(t)
	for range 12 {
		before := s.told()
		s.made(s.Run(), 0)
		s.made(s.Run(nil...), 0)
		s.made(s.Run([]int{}...), 0)
		s.made(s.Run(-1, 2, 3, -2), 0)
		s.same(before, "no picks")
		s.Rounds(1)
	}
}

// P16.2: a row tells how many steps were made: not those of threads that there aren't, nor of those that are done.
func TestHowManySteps(t *testing.T) {
	s := by(api.Polite, "=5", "=5 +1", "=5 w0").crowd(t) // 4, 5 and 9 steps
	s.made(s.Run(0), 1)
	s.made(s.Run(0, 1, 2), 3)
	s.made(s.Run(3, 0, -1, 2, 6), 2)
	s.made(s.Run(0, 0, 0, 1, 0), 2) // its fourth and last one is the first
	s.at(8, 1, 1, 2)
	s.made(s.Run(0, 1, 1, 1, 1, 2), 4)
	s.at(12, 2, 2)
	s.made(s.Run(slices.Repeat([]int{2, 0, 1, 2}, 100)...), 6)
	s.at(18, 3)
	s.beats(4, 5, 9)
	s.over()
}

// P16.2: picks come in the order in which they stand.
func TestOrder(t *testing.T) {
	for _, row := range [][]int{{0, 1, 2}, {0, 2, 1}, {1, 0, 2}, {1, 2, 0}, {2, 0, 1}, {2, 1, 0}} {
		s := by(api.Karma, "=1 w0", "=2 w0", "=3 w0").crowd(t)
		s.made(s.Run(row...), 3)
		s.made(s.Run(row...), 3)
		var want []api.Event
		for stamp, no := range row {
			want = append(want, api.Event{Kind: api.EvBegin, Thread: no, Attempt: 1, Val: int64(stamp)})
		}
		if l := s.Floor().Trace(); !slices.Equal(l, want) {
			t.Errorf("the picks %v: %v", row, l)
		}
		var all []int
		for _, no := range row {
			all = append(all, slices.Repeat([]int{no}, 20)...)
		}
		s.Run(all...)
		s.values(int64(row[2]+1), 6)
	}
}

// P16.2: a row is its picks one by one, and may be cut anywhere.
func TestRunInParts(t *testing.T) {
	for seed := range 40 {
		d := dice(seed*31 + 7)
		l := d.laid(seed%4 == 0)
		row := d.picks(l.c.Threads, 200)
		whole, single, parts := l.crowd(t), l.crowd(t), l.crowd(t)
		n, ones, some := whole.Run(row...), 0, 0
		for _, no := range row {
			if single.Pick(no) {
				ones++
			}
		}
		for rest := row; len(rest) > 0; {
			at := 1 + d.to(len(rest))
			some += parts.Run(rest[:at]...)
			rest = rest[at:]
		}
		where := fmt.Sprintf("the seed %d", seed)
		single.same(whole.told(), where+", one by one")
		parts.same(whole.told(), where+", in parts")
		whole.made(ones, n)
		whole.made(some, n)
		whole.made(whole.Steps(), n)
	}
}

// P16.3: who isn't done, how many steps and how many commits there are, behind each step: of threads that share no object, by each manager.
func TestUnfinishedStepsAndCommits(t *testing.T) {
	for _, manager := range managers() {
		greedy := 0
		if manager == api.Greedy {
			greedy = 1
		}
		s := by(manager, "=5/=6", "", "=5", "=1 +1 +1").crowd(t)
		lasts := []int{8 + 2*greedy, 0, 4 + greedy, 6 + greedy}
		commits := [][]int{{4, 8 + greedy}, nil, {4}, {6}} // Greedy's leave comes behind the commit
		for round := range 12 {
			var unfinished []int
			steps, committed := 0, 0
			for no, last := range lasts {
				if round < last {
					unfinished = append(unfinished, no)
				}
				steps += min(round, last)
				for _, at := range commits[no] {
					if round >= at {
						committed++
					}
				}
			}
			s.at(steps, committed, unfinished...)
			s.made(s.Rounds(1), len(unfinished))
		}
		s.over()
	}
}

// P16.3: unfinished ones are told rising, whatever the order in which they end: of six threads, all orders.
func TestUnfinishedInAnyOrder(t *testing.T) {
	var orders func(left, row []int)
	orders = func(left, row []int) {
		if len(left) > 0 {
			for i, no := range left {
				orders(slices.Delete(slices.Clone(left), i, i+1), append(slices.Clone(row), no))
			}
			return
		}
		s := by(api.Polite, "=0", "=1", "=2", "=3", "=4", "=5").crowd(t)
		rest := []int{0, 1, 2, 3, 4, 5}
		for i, no := range row {
			s.at(4*i, i, rest...)
			s.made(s.Run(no, no, no), 3)
			s.at(4*i+3, i, rest...)
			rest = slices.DeleteFunc(rest, func(n int) bool { return n == no })
			s.made(s.Run(no, no, no), 1)
		}
		s.at(24, 6)
	}
	orders([]int{0, 1, 2, 3, 4, 5}, nil)
}

// P16.3: a commit that fails counts none, and the transaction that is tried again counts one.
func TestCommitsCount(t *testing.T) {
	for _, manager := range managers() {
		s := by(manager, "r0 +1 w1", "=9 w0").crowd(t)
		for s.Thread(0).Try() == 0 || len(s.Floor().Trace()) < 2 { // up to its read
			s.Pick(0)
		}
		n := s.alone(1, 100)
		s.at(n+s.Thread(0).Steps(), 1, 0)
		s.alone(0, 100)
		s.at(s.Thread(0).Steps()+n, 2)
		s.values(9, 10)
		aborts := 0
		for _, e := range s.Floor().Trace() {
			if e.Kind == api.EvAbort {
				aborts++
			}
		}
		if aborts != 1 {
			t.Errorf("%d aborts", aborts)
		}
	}
}

// P16.3: who is done stays done, and who isn't is told, whoever else goes on.
func TestDoneStaysDone(t *testing.T) {
	for seed := range 60 {
		d := dice(seed*131 + 5)
		l := d.laid(seed%3 == 0)
		s := l.crowd(t)
		before := s.Unfinished()
		for _, no := range d.picks(l.c.Threads, 800) {
			steps, commits := s.Steps(), s.Commits()
			made, was := s.Pick(no), slices.Contains(before, no)
			now := s.Unfinished()
			if made != was || !slices.IsSorted(now) {
				t.Fatalf("the seed %d: the pick of %d: %v; unfinished %v, then %v", seed, no, made, before, now)
			}
			for i := range l.c.Threads {
				is, had := slices.Contains(now, i), slices.Contains(before, i)
				if is != !s.Thread(i).Done() || is && !had || had && !is && i != no {
					t.Fatalf("the seed %d: the pick of %d: unfinished %v, then %v", seed, no, before, now)
				}
			}
			if n := s.Steps() - steps; n != 0 && !made || n != 1 && made {
				t.Fatalf("the seed %d: the pick of %d: %d steps", seed, no, n)
			}
			if n := s.Commits() - commits; n < 0 || n > 1 || n == 1 && !made {
				t.Fatalf("the seed %d: the pick of %d: %d commits", seed, no, n)
			}
			before = now
		}
	}
}

// P16.3: the threads and the floor are the things themselves: what is done to them is done to the crowd.
func TestThingsThemselves(t *testing.T) {
	for threads := 1; threads <= api.MaxThreads; threads++ {
		s := by(api.Polite, slices.Repeat([]string{"=7 w0"}, threads)...).crowd(t)
		for no := range threads {
			if s.Thread(no) == nil || s.Thread(no) != s.Thread(no) || s.Floor() != s.Floor() {
				t.Fatal("not the thing itself")
			}
			for i := range no {
				if s.Thread(i) == s.Thread(no) {
					t.Errorf("%d and %d are one", i, no)
				}
			}
			// A step of the thread itself is the crowd's, too.
			steps := s.Steps()
			if !s.Thread(no).Step() || s.Steps() != steps+1 || s.Floor().Gate().Pulse(no) != 1 || s.Floor().Tickets().Taken() != no+1 {
				t.Errorf("a step of the thread %d: %d steps", no, s.Steps())
			}
			if !s.Pick(no) || s.Thread(no).Steps() != 2 || s.Thread(no).Try() != 1 {
				t.Errorf("a pick of %d: %d steps", no, s.Thread(no).Steps())
			}
		}
		for s.Thread(0).Step() {
		}
		if slices.Contains(s.Unfinished(), 0) || s.Commits() != 1 || s.Pick(0) {
			t.Error("the thread is done, but not the crowd's")
		}
		s.values(7, 6)
	}
	s := by(api.Stamp, "=7 w0", "r0").crowd(t)
	s.Run(0, 0)
	s.Floor().Table().Turn(4, api.Aborted)
	s.Floor().Note(api.Event{Kind: api.EvWrite, Val: 99})
	s.Floor().Tickets().Take()
	s.alone(0, 100)
	s.alone(1, 100)
	l := s.Floor().Trace()
	if len(l) != 9 || l[1] != (api.Event{Kind: api.EvWrite, Val: 99}) || l[2] != (api.Event{Kind: api.EvAbort, Attempt: 1, Reason: api.Enemy}) || l[6] != (api.Event{Kind: api.EvBegin, Thread: 1, Attempt: 1, Val: 2}) {
		t.Errorf("Trace: %v", l)
	}
}

// P16.3: what is told, and changed, with its spare room, changes nothing.
func TestWhatIsToldIsNew(t *testing.T) {
	s := by(api.Karma, "=1 w0", "", "r0", "w1", "=2").crowd(t)
	for range 10 {
		want, before := slices.Clone(s.Unfinished()), s.told()
		l, other := s.Unfinished(), s.Unfinished()
		l = l[:cap(l)]
		for i := range l {
			l[i] = -7
		}
		l = append(l[:0], 4, 4, 4, 4)
		if !slices.Equal(other, want) || !slices.Equal(s.Unfinished(), want) {
			t.Errorf("Unfinished: %v, %v, not %v, behind %v", other, s.Unfinished(), want, l)
		}
		s.same(before, "what was told was changed")
		s.Rounds(1)
	}
}
