package crowd_test

import (
	"fmt"
	"math"
	"slices"
	"testing"

	"quarrel/api"
)

// P16.2: no rounds make no step.
func TestNoRounds(t *testing.T) {
	for _, manager := range managers() {
		s := by(manager, "=5", "r0 +1 w0").crowd(t)
		for range 4 {
			before := s.told()
			for _, n := range numbers() {
				if n <= 0 {
					s.made(s.Rounds(n), 0)
				}
			}
			s.same(before, "no rounds")
			s.Rounds(1)
		}
	}
}

// P16.2: in one round each thread is picked once, in order: the first takes the first ticket, and begins first.
func TestOneRound(t *testing.T) {
	for threads := 1; threads <= api.MaxThreads; threads++ {
		s := by(api.Polite, slices.Repeat([]string{"=5"}, threads)...).crowd(t)
		var want []api.Event
		for no := range threads {
			want = append(want, api.Event{Kind: api.EvBegin, Thread: no, Attempt: 1, Val: int64(no)})
		}
		s.made(s.Rounds(1), threads)
		s.beats(slices.Repeat([]int{1}, threads)...)
		s.made(s.Rounds(1), threads)
		s.beats(slices.Repeat([]int{2}, threads)...)
		if l := s.Floor().Trace(); !slices.Equal(l, want) {
			t.Errorf("Trace: %v", l)
		}
	}
	// Who is first isn't first any more, when it is done.
	s := by(api.Polite, "", "=5", "", "=6", "").crowd(t)
	s.made(s.Rounds(1), 2)
	s.beats(0, 1, 0, 1, 0)
}

// P16.2: of more rounds than are wanted no more steps are told than were made; threads that end earlier are left out from then on.
func TestMoreRoundsThanAreWanted(t *testing.T) {
	for _, n := range []int{8, 9, 10, 1000, 99_999, 100_000, 100_001, 1 << 32, math.MaxInt} {
		s := by(api.Stamp, "=5", "=5/=6", "", "x0 x1").crowd(t)
		s.made(s.Rounds(n), 4+8+0+5)
		s.at(17, 4)
		s.beats(4, 8, 0, 5)
		s.over()
	}
	for n := range 9 {
		s := by(api.Stamp, "=5", "=5/=6", "", "x0 x1").crowd(t)
		s.made(s.Rounds(n), min(n, 4)+n+min(n, 5))
		s.made(s.Rounds(100), 17-(min(n, 4)+n+min(n, 5)))
		s.over()
	}
}

// P16.2: rounds are rows of picks of all threads, in order; so many and then so many are as many together.
func TestRoundsAreRows(t *testing.T) {
	for seed := range 40 {
		d := dice(seed*97 + 1)
		l := d.laid(seed%4 == 0)
		n := d.to(150)
		cut := d.to(n + 1)
		var row []int
		for range n {
			for no := range l.c.Threads {
				row = append(row, no)
			}
		}
		ahead := d.picks(l.c.Threads, d.to(100))
		rounds, picks, parts := l.crowd(t), l.crowd(t), l.crowd(t)
		for _, s := range []scene{rounds, picks, parts} {
			s.Run(ahead...)
		}
		made := rounds.Rounds(n)
		rounds.made(made, picks.Run(row...))
		rounds.made(made, parts.Rounds(cut)+parts.Rounds(n-cut))
		where := fmt.Sprintf("the seed %d, %d rounds", seed, n)
		rounds.same(picks.told(), where)
		rounds.same(parts.told(), where+", in parts")
	}
}

// P16.2: crowds without transactions make no steps, in no rounds.
func TestRoundsOfNobody(t *testing.T) {
	for threads := 1; threads <= api.MaxThreads; threads++ {
		for _, manager := range managers() {
			s := by(manager, make([]string, threads)...).crowd(t)
			s.at(0, 0)
			s.over()
			s.beats(make([]int, threads)...)
		}
	}
}

// endless is a crowd whose threads that open an object stay for ever: the senior is elder than all, and its thread goes on, as it waits for itself.
func endless(t *testing.T, threads ...string) scene {
	t.Helper()
	s := by(api.Greedy, threads...).crowd(t)
	s.Floor().Tickets().Take()
	if !s.Floor().Gate().Swap(s.Floor().Gate().See(), 0, len(threads)-1) {
		t.Fatal("Swap of the gate: false")
	}
	return s
}

// P16.2: there are 100,000 rounds at most, of however many are asked for; then there may be more.
func TestMostRounds(t *testing.T) {
	for _, q := range []struct{ rounds, want int }{
		{99_998, 99_998}, {99_999, 99_999}, {100_000, 100_000}, {100_001, 100_000}, {200_000, 100_000}, {1 << 32, 100_000}, {1<<32 + 1, 100_000}, {math.MaxInt - 1, 100_000}, {math.MaxInt, 100_000},
	} {
		s := endless(t, "w0", "r0")
		s.made(s.Rounds(q.rounds), 2*q.want)
		s.beats(q.want, q.want)
		s.at(2*q.want, 0, 0, 1)
		s.made(s.Rounds(1), 2)
		s.made(s.Rounds(3), 6)
	}
	s := endless(t, "r1")
	s.made(s.Rounds(100_001), 100_000)
	// Who ends earlier is left out from then on, and rounds go on for those that are left.
	s = endless(t, "=5", "", "r0", "x0/=1", "", "w1")
	s.made(s.Rounds(100_001), 5+10+200_000)
	s.beats(5, 0, 100_000, 10, 0, 100_000)
	s.at(200_015, 3, 2, 5)
	s.made(s.Rounds(100_001), 200_000)
}

// P16.2: what is asked for at most is rounds, and not steps or picks.
func TestPicksHaveNoMost(t *testing.T) {
	s := endless(t, "w0", "w0")
	s.made(s.Run(slices.Repeat([]int{0, 1, 2}, 100_001)...), 200_002)
	s.beats(100_001, 100_001)
}
