package polite_test

import (
	"math"
	"testing"

	"quarrel/choice"
	"quarrel/polite"
)

// top is where Tries stays.
const top = 1_000_000

// numbers are ordinary ones, and the ends of what an int can be.
func numbers() []int {
	return []int{
		0, 1, 2, 3, 4, 5, 7, 8, 15, 16, 17, 64, 1_000_000, math.MaxInt32, math.MaxInt - 1, math.MaxInt,
		-1, -2, -4, -16, -1_000_000, math.MinInt32, math.MinInt + 1, math.MinInt,
	}
}

// forSteps is a wait of so many steps.
func forSteps(steps int) choice.Decision { return choice.Decision{Kind: choice.Wait, Steps: steps} }

// abort is that the foe is to be aborted.
func abort() choice.Decision { return choice.Decision{Kind: choice.Abort} }

// met is a state that has met the foe 7 so many times.
func met(tries int) choice.State {
	return choice.State{Foe: 7, Tries: tries, Yields: 2, Pulse: 5, Looks: 3}
}

// foe is the one that the states of met have met, of another pulse by now.
func foe() choice.Side { return choice.Side{Id: 7, Stamp: 4, Priority: 6, Pulse: 9} }

// me is who asks.
func me() choice.Side { return choice.Side{Id: 3, Stamp: 8, Priority: 1, Pulse: 11} }

// checkDecide asks for a decision, and the state behind it.
func checkDecide(t *testing.T, s choice.State, me, foe choice.Side, draw, wait int, want choice.Decision, behind choice.State) {
	t.Helper()
	d, got := polite.Manager{}.Decide(s, me, foe, draw, wait)
	if d != want || got != behind {
		t.Errorf("Decide(%+v, %+v, %+v, %d, %d): %+v, %+v, not %+v, %+v", s, me, foe, draw, wait, d, got, want, behind)
	}
}

// P6.1: a manager stands behind the interface of layer 5, by a pointer too.
func TestManager(t *testing.T) {
	for _, m := range []choice.Manager{polite.Manager{}, &polite.Manager{}} {
		d, s := m.Decide(met(1), me(), foe(), 3, 64)
		if d != forSteps(4) || s != met(2) || m.Marks() {
			t.Errorf("%+v, %+v, %v", d, s, m.Marks())
		}
	}
}

// P6.1: who waits by it doesn't say so, whatever it decided.
func TestMarks(t *testing.T) {
	m := polite.Manager{}
	for tries := range 8 {
		if m.Marks() {
			t.Errorf("%d decisions behind: Marks", tries)
		}
		m.Decide(met(tries), me(), foe(), tries, 64)
	}
}

// The chapter's example.
func TestExample(t *testing.T) {
	checkDecide(t, choice.State{Foe: 7, Tries: 1}, me(), foe(), 3, 64, forSteps(4), choice.State{Foe: 7, Tries: 2})
}

// P6.1: waits by the tries by now and the draw, written out: of a draw of 0, and just below, at and above 2 to the power of the tries behind it.
func TestWait(t *testing.T) {
	for _, q := range []struct{ tries, draw, steps int }{
		{0, 0, 1}, {0, 1, 2}, {0, 2, 1}, {0, 3, 2}, {0, 4, 1}, {0, 1001, 2},
		{1, 0, 1}, {1, 1, 2}, {1, 2, 3}, {1, 3, 4}, {1, 4, 1}, {1, 5, 2}, {1, 8, 1}, {1, 1002, 3},
		{2, 0, 1}, {2, 3, 4}, {2, 4, 5}, {2, 7, 8}, {2, 8, 1}, {2, 9, 2}, {2, 16, 1}, {2, 1006, 7},
		{3, 0, 1}, {3, 7, 8}, {3, 8, 9}, {3, 14, 15}, {3, 15, 16}, {3, 16, 1}, {3, 17, 2}, {3, 31, 16}, {3, 32, 1}, {3, 1010, 3},
		{0, math.MaxInt, 2}, {1, math.MaxInt, 4}, {2, math.MaxInt, 8}, {3, math.MaxInt, 16},
		{0, math.MaxInt - 1, 1}, {1, math.MaxInt - 1, 3}, {2, math.MaxInt - 1, 7}, {3, math.MaxInt - 1, 15},
	} {
		checkDecide(t, met(q.tries), me(), foe(), q.draw, 64, forSteps(q.steps), met(q.tries+1))
	}
}

// P6.1: of all small draws the steps go round from 1 to 2 to the power of the tries behind them.
func TestWaitGoesRound(t *testing.T) {
	for tries, round := range []int{2, 4, 8, 16} {
		steps := 0
		for draw := range 200 {
			if steps++; steps > round {
				steps = 1
			}
			checkDecide(t, met(tries), me(), foe(), draw, 64, forSteps(steps), met(tries+1))
		}
	}
}

// P6.1: of a draw below 0 it is waited one step, at any try that is met with a wait.
func TestDrawBelowZero(t *testing.T) {
	for tries := range 4 {
		for draw := -40; draw < 0; draw++ {
			checkDecide(t, met(tries), me(), foe(), draw, 64, forSteps(1), met(tries+1))
		}
		for _, draw := range []int{math.MinInt32, math.MinInt + 1, math.MinInt} {
			checkDecide(t, met(tries), me(), foe(), draw, 64, forSteps(1), met(tries+1))
		}
	}
}

// P6.1: of tries that are below 1 behind it, it is waited one step, whatever is drawn.
func TestTriesBelowOne(t *testing.T) {
	for _, tries := range []int{-1, -2, -3, -5, -63, -64, -65, -1_000_000, math.MinInt32, math.MinInt + 1, math.MinInt} {
		for _, draw := range numbers() {
			checkDecide(t, met(tries), me(), foe(), draw, 64, forSteps(1), met(tries+1))
		}
	}
}

// P6.1: behind more than four tries the foe is aborted, whatever is drawn, and however long may be waited; Tries stays at 1,000,000.
func TestAbort(t *testing.T) {
	for _, c := range [][2]int{
		{4, 5}, {5, 6}, {6, 7}, {7, 8}, {15, 16}, {31, 32}, {61, 62}, {62, 63}, {63, 64}, {64, 65}, {1000, 1001},
		{999_998, 999_999}, {999_999, top}, {1_000_000, top}, {1_000_001, top}, {math.MaxInt - 1, top}, {math.MaxInt, top},
	} {
		for _, draw := range numbers() {
			for _, wait := range numbers() {
				checkDecide(t, met(c[0]), me(), foe(), draw, wait, abort(), met(c[1]))
			}
		}
	}
}

// P6.1: tries of 3, 4 and 5 by now, with all else the same: the last wait, and the first two decisions to abort.
func TestTheLastWait(t *testing.T) {
	checkDecide(t, met(3), me(), foe(), 15, 64, forSteps(16), met(4))
	checkDecide(t, met(4), me(), foe(), 15, 64, abort(), met(5))
	checkDecide(t, met(5), me(), foe(), 15, 64, abort(), met(6))
}

// P6.1: it is waited wait steps at most, and one at least, even of a wait below 1.
func TestWaitIsHeld(t *testing.T) {
	for _, q := range []struct{ tries, draw, wait, steps int }{
		{3, 15, 64, 16}, {3, 15, 17, 16}, {3, 15, 16, 16}, {3, 15, 15, 15}, {3, 15, 14, 14}, {3, 15, 2, 2}, {3, 15, 1, 1},
		{3, 15, 0, 1}, {3, 15, -1, 1}, {3, 15, -16, 1}, {3, 15, math.MinInt, 1}, {3, 15, math.MaxInt, 16},
		{0, 1, 2, 2}, {0, 1, 1, 1}, {0, 1, 0, 1}, {0, 1, -1, 1}, {0, 0, 1, 1}, {0, 0, 0, 1},
		{1, 3, 3, 3}, {1, 2, 3, 3}, {1, 1, 3, 2}, {2, 7, 5, 5}, {2, 8, 5, 1}, {2, 11, 5, 4},
		{3, 0, 0, 1}, {3, 0, -1, 1}, {3, -1, 0, 1}, {3, -1, -1, 1}, {3, -1, 1, 1}, {-1, 9, 0, 1}, {-1, 9, 64, 1}, {-1, 9, -64, 1},
		{3, math.MaxInt, 3, 3}, {3, math.MinInt, math.MinInt, 1}, {math.MinInt, math.MaxInt, math.MaxInt, 1},
	} {
		checkDecide(t, met(q.tries), me(), foe(), q.draw, q.wait, forSteps(q.steps), met(q.tries+1))
	}
}

// P6.1: another foe is met for the first time, its pulse is the one that was seen, and not looked at yet; Yields stays. The draw goes by that try.
func TestAnotherFoe(t *testing.T) {
	other := choice.Side{Id: 8, Stamp: 1, Priority: 2, Pulse: 21}
	for _, tries := range append(numbers(), top-1, top+1) {
		for draw := range 20 {
			want := choice.State{Foe: 8, Tries: 1, Yields: 2, Pulse: 21, Looks: 0}
			checkDecide(t, met(tries), me(), other, draw, 64, forSteps(1+draw&1), want)
		}
	}
	checkDecide(t, choice.Fresh(), me(), other, 1, 64, forSteps(2), choice.State{Foe: 8, Tries: 1, Pulse: 21})
}

// P6.1: what the same foe is met by tells its tries alone: the pulse that was seen stays, and so does how often.
func TestTheSameFoe(t *testing.T) {
	for _, n := range numbers() {
		s := choice.State{Foe: n, Tries: 2, Yields: n, Pulse: 5, Looks: n}
		want := choice.State{Foe: n, Tries: 3, Yields: n, Pulse: 5, Looks: n}
		checkDecide(t, s, me(), choice.Side{Id: n, Pulse: 6}, 6, 64, forSteps(7), want)
		s.Tries, want.Tries = 4, 5
		checkDecide(t, s, me(), choice.Side{Id: n, Pulse: 6}, 6, 64, abort(), want)
	}
}

// P6.1: nothing else plays a part: not who asks, not the foe's stamp or priority or whether it is waiting, not how often one gave way or looked.
func TestNothingElse(t *testing.T) {
	for _, n := range numbers() {
		for _, waiting := range []bool{false, true} {
			asks := choice.Side{Id: n, Stamp: n, Priority: n, Pulse: n, Waiting: waiting}
			same := choice.Side{Id: 7, Stamp: n, Priority: n, Pulse: n, Waiting: !waiting}
			s := choice.State{Foe: 7, Tries: 3, Yields: n, Pulse: n, Looks: n}
			want := choice.State{Foe: 7, Tries: 4, Yields: n, Pulse: n, Looks: n}
			checkDecide(t, s, asks, same, 12, 64, forSteps(13), want)
			s.Tries, want.Tries = 4, 5
			checkDecide(t, s, asks, same, 12, 64, abort(), want)
		}
	}
	itself := foe()
	checkDecide(t, met(1), itself, itself, 2, 64, forSteps(3), met(2))
}

// P6.1: of any numbers there is a decision to abort, or to wait a number of steps that may be, the same each time.
func TestAnyNumbers(t *testing.T) {
	for _, a := range numbers() {
		for _, b := range numbers() {
			for _, c := range numbers() {
				s := choice.State{Foe: b, Tries: a, Yields: c, Pulse: a, Looks: b}
				asks := choice.Side{Id: a, Stamp: b, Priority: c, Pulse: a, Waiting: a > b}
				other := choice.Side{Id: c, Stamp: a, Priority: b, Pulse: c, Waiting: b > c}
				d, behind := polite.Manager{}.Decide(s, asks, other, b, c)
				if d.Kind == choice.Yield || !choice.Ok(d, max(c, 1)) || behind != choice.Met(s, other) {
					t.Errorf("Decide(%+v, %+v, %+v, %d, %d): %+v, %+v", s, asks, other, b, c, d, behind)
				}
				checkDecide(t, s, asks, other, b, c, d, behind)
			}
		}
	}
}

// P6.2: one foe is met with four waits, and aborted then, at each meeting from there on, whatever is drawn, and however long may be waited.
func TestFourWaits(t *testing.T) {
	for _, draw := range numbers() {
		for _, wait := range numbers() {
			s := choice.Fresh()
			for meeting := 1; meeting <= 12; meeting++ {
				d, behind := polite.Manager{}.Decide(s, me(), foe(), draw, wait)
				if s = behind; (d.Kind == choice.Wait) != (meeting <= 4) || (d == abort()) != (meeting > 4) {
					t.Errorf("draw %d, wait %d, meeting %d: %+v", draw, wait, meeting, d)
				}
			}
		}
	}
}

// P6.2: four waits at most that get longer each time, where the draws are the highest ones: 30 steps in all.
func TestLongerEachTime(t *testing.T) {
	s := choice.Fresh()
	for i, want := range []choice.Decision{forSteps(2), forSteps(4), forSteps(8), forSteps(16), abort(), abort()} {
		behind := choice.State{Foe: 7, Tries: i + 1, Pulse: 9}
		checkDecide(t, s, me(), foe(), math.MaxInt, 64, want, behind)
		s = behind
	}
}

// P6.2: of all short rows of foes each is aborted just where the same one is met more than four times together; another one between them begins anew.
func TestFoesInTurn(t *testing.T) {
	const foes, length = 2, 12
	for row := range 1 << length {
		s := choice.Fresh()
		together, last := 0, -1
		for i := range length {
			id := row >> i % foes
			if together++; id != last {
				together, last = 1, id
			}
			d, behind := polite.Manager{}.Decide(s, me(), choice.Side{Id: id}, 1, 64)
			want := forSteps(2)
			if together > 4 {
				want = abort()
			}
			if s = behind; d != want || s != (choice.State{Foe: id, Tries: together}) {
				t.Fatalf("row %b, place %d: %+v, %+v, met %d times together", row, i, d, s, together)
			}
		}
	}
}

// P6.2: from no state on, whose tries are 0 or more, is the same foe met with more than four waits.
func TestFourWaitsFromAnyState(t *testing.T) {
	for _, tries := range []int{0, 1, 2, 3, 4, 5, 6, 100, 999_999, 1_000_000, 1_000_001, math.MaxInt} {
		s, waits := met(tries), 0
		for range 10 {
			d, behind := polite.Manager{}.Decide(s, me(), foe(), 5, 64)
			if s = behind; d.Kind == choice.Wait {
				waits++
			}
		}
		if want := max(0, 4-tries); waits != want {
			t.Errorf("from %d tries on: %d waits, not %d", tries, waits, want)
		}
	}
}
