package world_test

import (
	"math"
	"slices"
	"testing"

	"quarrel/api"
)

// The chapter's example: behind nine picks the value is 5 still, behind two more 6.
func TestExample(t *testing.T) {
	s := open(t, example())
	s.at(0, 11)
	s.values(5)
	s.comes(9, 9)
	s.at(9, 2)
	s.values(5)
	s.comes(2, 2)
	s.at(11, 0)
	s.values(6)
}

// The example by each manager: each pick is a step of the thread, and at the last one that it makes the value becomes 6, whichever that is by him.
func TestExampleByEach(t *testing.T) {
	for _, manager := range managers() {
		b := append(example(), make([]byte, 9)...)
		b[5] = byte(manager)
		s := open(t, b)
		n := 0
		for ; s.Crowd().Commits() == 0; n++ {
			s.at(n, 20-n)
			s.values(5)
			if steps := s.Crowd().Steps(); steps != n {
				t.Errorf("the manager %d, behind %d picks: %d steps", manager, n, steps)
			}
			if !s.Next() {
				t.Fatalf("the manager %d: 20 picks are not enough", manager)
			}
		}
		if n < 11 || n > 13 {
			t.Errorf("the manager %d: it commits behind %d picks", manager, n)
		}
		s.values(6)
		s.comes(20, 20-n)
		s.values(6)
	}
}

// P21.1: Open is a world no pick of which came, and whose threads made no step.
func TestOpen(t *testing.T) {
	for _, l := range several() {
		s := opened(t, l)
		s.at(0, len(l.Picks))
		s.is(plain(t, l), "opened")
		s.values(l.First...)
		if n := s.Crowd().Steps(); n != 0 || len(s.Trace()) != 0 {
			t.Errorf("%d steps, the trace %v", n, s.Trace())
		}
	}
}

// P21.1: Next lets one pick come, in the script's order, up to the last one; behind it nothing comes, however often it is asked.
func TestNext(t *testing.T) {
	for _, l := range several() {
		s, c := opened(t, l), plain(t, l)
		for i, no := range l.Picks {
			s.at(i, len(l.Picks)-i)
			if !s.Next() {
				t.Fatalf("%+v: Next, behind %d picks: false", l, i)
			}
			c.Pick(no)
			s.is(c, "behind Next")
		}
		for range 3 {
			if s.Next() {
				t.Fatalf("%+v: Next behind the last pick: true", l)
			}
			s.at(len(l.Picks), 0)
			s.is(c, "behind the last pick")
		}
	}
}

// P21.1: Run lets n picks come, or as many as are left, from each place on, and tells how many; none of n below 0.
func TestRun(t *testing.T) {
	for _, l := range several() {
		most := len(l.Picks)
		for ahead := 0; ahead <= most; ahead += 1 + most/11 {
			left := most - ahead
			for _, n := range append(numbers(), left-1, left, left+1, left/2) {
				s, c := opened(t, l), plain(t, l)
				s.comes(ahead, ahead)
				s.at(ahead, left)
				come := n
				if n < 0 {
					come = 0
				} else if n > left {
					come = left
				}
				s.comes(n, come)
				s.at(ahead+come, left-come)
				c.Run(l.Picks[:ahead+come]...)
				if s.is(c, "behind Run"); t.Failed() {
					t.Fatalf("%+v: %d, then %d", l, ahead, n)
				}
			}
		}
	}
}

// P21.1: behind the last pick Run lets nothing come, whatever n is; without picks there is none from the beginning on.
func TestRunBehindTheLast(t *testing.T) {
	for _, l := range several() {
		s := opened(t, l)
		s.comes(math.MaxInt, len(l.Picks))
		before := s.told()
		for _, n := range numbers() {
			s.comes(n, 0)
		}
		if s.Next() {
			t.Errorf("Next behind the last pick: true")
		}
		s.same(before, "behind the last pick")
	}
}

// P21.1: a pick of a thread that is done comes, and makes no step; nor does one of a thread that there isn't: up to 255, and that of just as many as there are.
func TestPicksWithoutAStep(t *testing.T) {
	for _, manager := range managers() {
		for _, q := range []struct {
			threads []string
			none    int
		}{
			{[]string{"", "=5 w0"}, 0},     // it has no transactions
			{[]string{"=5 w0"}, 1},         // there are 1
			{[]string{"=5 w0", "w1"}, 2},   // 2
			{[]string{"=5 w0", "w1"}, 255}, // the greatest one
			{[]string{"=5 w0", "w1"}, 128},
			{[]string{"", "", "", "", "", "=5 w0"}, 6},
		} {
			s := opened(t, by(manager, []int{q.none, q.none, q.none}, q.threads...))
			for i := range 3 {
				s.at(i, 3-i)
				if !s.Next() {
					t.Errorf("a pick of %d of %v doesn't come", q.none, q.threads)
				}
				if n := s.Crowd().Steps(); n != 0 || len(s.Trace()) != 0 {
					t.Errorf("a pick of %d of %v makes a step", q.none, q.threads)
				}
			}
			s.at(3, 0)
			s.comes(1, 0)
		}
	}
}

// P21.1: a thread that commits, and is picked on: its picks come, as many as there are, and the other one's behind them.
func TestPicksOfADoneThread(t *testing.T) {
	for _, manager := range managers() {
		row := append(slices.Repeat([]int{0}, 40), 1, 1, 0)
		s := opened(t, by(manager, row, "=9 w0", "=8 w1"))
		for !s.Crowd().Thread(0).Done() {
			if !s.Next() {
				t.Fatal("40 picks are not enough")
			}
		}
		done := s.Picked()
		if n := s.Crowd().Steps(); n != done {
			t.Errorf("%d picks, %d steps", done, n)
		}
		s.comes(40-done, 40-done)
		s.at(40, 3)
		if n := s.Crowd().Steps(); n != done {
			t.Errorf("the thread is done, but makes steps: %d, then %d", done, n)
		}
		s.comes(math.MaxInt, 3)
		if n := s.Crowd().Steps(); n != done+2 || s.Crowd().Thread(1).Steps() != 2 {
			t.Errorf("%d steps, of which the other one's %d", n, s.Crowd().Thread(1).Steps())
		}
		s.values(9, 6)
	}
}

// P21.1: Next and Run may take turns; each tells of its own picks alone.
func TestNextAndRun(t *testing.T) {
	for _, l := range several() {
		s, c := opened(t, l), plain(t, l)
		came := 0
		for n := 0; s.Left() > 0 && !t.Failed(); n = (n + 1) % 5 {
			want := min(n, len(l.Picks)-came)
			s.comes(n, want)
			came += want
			if got, more := s.Next(), came < len(l.Picks); got != more {
				t.Fatalf("Next, behind %d picks of %d: %v", came, len(l.Picks), got)
			} else if more {
				came++
			}
			s.at(came, len(l.Picks)-came)
		}
		c.Run(l.Picks...)
		s.is(c, "all picks came")
	}
}

// P21.1: many picks: a crowd that is done long before they end.
func TestManyPicks(t *testing.T) {
	l := by(api.Greedy, slices.Repeat([]int{0, 1, 2, 200}, 50_000), "r0 +1 w0/r1 +1 w1", "r1 -2 w1/r0 w1", "r0 r1 w0 w1")
	s, c := opened(t, l), plain(t, l)
	s.at(0, 200_000)
	s.comes(199_999, 199_999)
	s.at(199_999, 1)
	s.comes(2, 1)
	s.at(200_000, 0)
	c.Run(l.Picks...)
	s.is(c, "many picks")
}
