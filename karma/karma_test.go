package karma_test

import (
	"math"
	"math/big"
	"testing"

	"quarrel/choice"
	"quarrel/karma"
)

// top is where Tries stays.
const top = 1_000_000

// numbers are ordinary ones, the edges of tries and of waits among them, and the ends of what an int can be.
func numbers() []int {
	return []int{
		0, 1, 2, 3, 7, 8, 9, 10, 63, 64, 65, 999_999, 1_000_000, 1_000_001, math.MaxInt32, math.MaxInt - 1, math.MaxInt,
		-1, -2, -7, -8, -9, -10, -64, -1_000_000, math.MinInt32, math.MinInt + 1, math.MinInt,
	}
}

// draws are a few of the numbers that may be drawn, for what is asked of all of several ones together.
func draws() []int { return []int{0, 1, 7, math.MaxInt, -1, math.MinInt} }

// tries are how often a foe was met by now, and how often behind one more.
func tries() [][2]int {
	return [][2]int{
		{0, 1}, {1, 2}, {2, 3}, {3, 4}, {4, 5}, {5, 6}, {6, 7}, {7, 8}, {8, 9}, {9, 10}, {10, 11}, {63, 64}, {1000, 1001},
		{999_998, 999_999}, {999_999, top}, {1_000_000, top}, {1_000_001, top}, {math.MaxInt - 1, top}, {math.MaxInt, top},
		{-1, 0}, {-2, -1}, {-3, -2}, {-8, -7}, {-9, -8}, {-1_000_000, -999_999}, {-1_000_001, -1_000_000},
		{math.MinInt32, math.MinInt32 + 1}, {math.MinInt + 1, math.MinInt + 2}, {math.MinInt, math.MinInt + 1},
	}
}

// pause is the one wait by this manager.
func pause() choice.Decision { return choice.Decision{Kind: choice.Wait, Steps: 1} }

// abort is that the foe is to be aborted.
func abort() choice.Decision { return choice.Decision{Kind: choice.Abort} }

// met is a state that has met the foe 7 so many times.
func met(tries int) choice.State {
	return choice.State{Foe: 7, Tries: tries, Yields: 2, Pulse: 5, Looks: 3}
}

// foe is the one that the states of met have met, of another pulse by now.
func foe(priority int) choice.Side {
	return choice.Side{Id: 7, Stamp: 4, Priority: priority, Pulse: 9}
}

// me is who asks.
func me(priority int) choice.Side {
	return choice.Side{Id: 3, Stamp: 8, Priority: priority, Pulse: 11}
}

// checkDecide asks for a decision, and the state behind it.
func checkDecide(t *testing.T, s choice.State, me, foe choice.Side, draw, wait int, want choice.Decision, behind choice.State) {
	t.Helper()
	d, got := karma.Manager{}.Decide(s, me, foe, draw, wait)
	if d != want || got != behind {
		t.Errorf("Decide(%+v, %+v, %+v, %d, %d): %+v, %+v, not %+v, %+v", s, me, foe, draw, wait, d, got, want, behind)
	}
}

// sum is two numbers together, and whether that fits into an int.
func sum(a, b int) (*big.Int, bool) {
	n := new(big.Int).Add(big.NewInt(int64(a)), big.NewInt(int64(b)))
	return n, n.IsInt64() && n.Int64() >= math.MinInt && n.Int64() <= math.MaxInt
}

// P7.1: a manager stands behind the interface of layer 5, by a pointer too.
func TestManager(t *testing.T) {
	for _, m := range []choice.Manager{karma.Manager{}, &karma.Manager{}} {
		d, s := m.Decide(met(1), me(2), foe(5), 3, 64)
		if d != pause() || s != met(2) || m.Marks() {
			t.Errorf("%+v, %+v, %v", d, s, m.Marks())
		}
		d, s = m.Decide(s, me(2), foe(5), 3, 64)
		if d != abort() || s != met(3) || m.Marks() {
			t.Errorf("%+v, %+v, %v", d, s, m.Marks())
		}
	}
}

// P7.1: who waits by it doesn't say so, whatever it decided.
func TestMarks(t *testing.T) {
	m := karma.Manager{}
	for tries := range 12 {
		if m.Marks() {
			t.Errorf("%d decisions behind: Marks", tries)
		}
		m.Decide(met(tries), me(0), foe(100), tries, 64)
	}
}

// The chapter's example.
func TestExample(t *testing.T) {
	s := choice.Fresh()
	for i, want := range []choice.Decision{pause(), abort()} {
		behind := choice.State{Foe: 7, Tries: i + 1, Pulse: 9}
		checkDecide(t, s, me(2), foe(4), 0, 64, want, behind)
		s = behind
	}
}

// P7.1: decisions by both priorities and the tries by now, written out: of my priority and the tries behind the meeting together just below, at and above the foe's priority.
func TestByPriority(t *testing.T) {
	for _, q := range []struct {
		tries, mine, foes int
		want              choice.Decision
	}{
		{0, 0, 0, abort()}, {0, 0, 1, abort()}, {0, 0, 2, pause()}, {0, 0, 3, pause()},
		{0, 5, 4, abort()}, {0, 5, 5, abort()}, {0, 5, 6, abort()}, {0, 5, 7, pause()}, {0, 5, 100, pause()},
		{1, 0, 1, abort()}, {1, 0, 2, abort()}, {1, 0, 3, pause()}, {1, 5, 7, abort()}, {1, 5, 8, pause()}, {1, 100, 0, abort()},
		{3, 2, 5, abort()}, {3, 2, 6, abort()}, {3, 2, 7, pause()}, {3, 3, 7, abort()}, {3, 1, 6, pause()}, {3, 1, 5, abort()},
		{6, 0, 6, abort()}, {6, 0, 7, abort()}, {6, 0, 8, pause()}, {6, 1, 8, abort()},
		{7, 0, 7, abort()}, {7, 0, 8, abort()}, {7, 0, 9, pause()}, {7, 1, 9, abort()}, {7, 1, 10, pause()},
	} {
		checkDecide(t, met(q.tries), me(q.mine), foe(q.foes), 3, 64, q.want, met(q.tries+1))
	}
}

// P7.1: of all small priorities and tries it is waited just where the foe's priority is the greater one of it and my priority and tries together.
func TestAllSmall(t *testing.T) {
	for by := range 8 {
		for mine := -12; mine <= 12; mine++ {
			// The foe's priority goes up to where my own one and the tries reach, and on from there.
			want := abort()
			for foes := -30; foes <= 30; foes++ {
				if foes == mine+by+2 {
					want = pause()
				}
				checkDecide(t, met(by), me(mine), foe(foes), 0, 64, want, met(by+1))
			}
		}
	}
}

// P7.1: at any tries, my priority and they together are one below the foe's priority, just that, and one above.
func TestTheEdgeAtAnyTries(t *testing.T) {
	for _, c := range tries() {
		if c[1] < math.MinInt32 {
			continue // no priority makes such tries up
		}
		below := abort()
		if c[1] <= 8 {
			below = pause()
		}
		for _, foes := range []int{0, 1, 4, 8, 9, 100, 2_000_000, -1, -9, -2_000_000} {
			mine := foes - c[1]
			checkDecide(t, met(c[0]), me(mine-1), foe(foes), 3, 64, below, met(c[1]))
			checkDecide(t, met(c[0]), me(mine), foe(foes), 3, 64, abort(), met(c[1]))
			checkDecide(t, met(c[0]), me(mine+1), foe(foes), 3, 64, abort(), met(c[1]))
		}
	}
}

// P7.1: tries of 7, 8 and 9 by now, and of more, with all else the same: the last wait, and decisions to abort from there on, however much more the foe did.
func TestTheLastWait(t *testing.T) {
	for _, foes := range []int{100, 2_000_000, math.MaxInt} {
		for _, mine := range []int{0, 1, -1, -1_000_000, math.MinInt} {
			checkDecide(t, met(6), me(mine), foe(foes), 15, 64, pause(), met(7))
			checkDecide(t, met(7), me(mine), foe(foes), 15, 64, pause(), met(8))
			checkDecide(t, met(8), me(mine), foe(foes), 15, 64, abort(), met(9))
			checkDecide(t, met(9), me(mine), foe(foes), 15, 64, abort(), met(10))
			checkDecide(t, met(999_999), me(mine), foe(foes), 15, 64, abort(), met(top))
			checkDecide(t, met(1_000_000), me(mine), foe(foes), 15, 64, abort(), met(top))
			checkDecide(t, met(1_000_001), me(mine), foe(foes), 15, 64, abort(), met(top))
		}
	}
}

// P7.1: behind more than eight tries the foe is aborted, whatever both did, whatever is drawn, and however long may be waited; Tries stays at 1,000,000.
func TestAbort(t *testing.T) {
	for _, c := range tries() {
		if c[1] <= 8 {
			continue
		}
		for _, mine := range []int{0, -1, 3, -1_000_000, math.MinInt} {
			for _, foes := range numbers() {
				for _, draw := range draws() {
					for _, wait := range []int{64, 1, 0, -1, math.MinInt, math.MaxInt} {
						checkDecide(t, met(c[0]), me(mine), foe(foes), draw, wait, abort(), met(c[1]))
					}
				}
			}
		}
	}
}

// P7.1: it is waited one step, whatever is drawn, and however long may be waited: of a wait of 1 and of 64, and of one below 1 too.
func TestWaitIsOneStep(t *testing.T) {
	for by := range 8 {
		for _, draw := range numbers() {
			for _, wait := range numbers() {
				checkDecide(t, met(by), me(0), foe(50), draw, wait, pause(), met(by+1))
				checkDecide(t, met(by), me(50), foe(50), draw, wait, abort(), met(by+1))
			}
		}
	}
}

// P7.1: of tries that are below 1 behind it, they are held against the priorities as they are.
func TestTriesBelowOne(t *testing.T) {
	for _, q := range []struct {
		tries, mine, foes int
		want              choice.Decision
	}{
		{-1, 0, 0, abort()}, {-1, 0, 1, pause()}, {-1, 0, -1, abort()}, {-1, 5, 5, abort()}, {-1, 5, 6, pause()},
		{-2, 0, -1, abort()}, {-2, 0, 0, pause()}, {-2, 1, 0, abort()}, {-2, 6, 5, abort()}, {-2, 5, 5, pause()},
		{-9, 0, -8, abort()}, {-9, 0, -7, pause()}, {-9, 9, 0, abort()}, {-9, 8, 0, abort()}, {-9, 7, 0, pause()},
		{-1_000_001, 0, 0, pause()}, {-1_000_001, 1_000_000, 0, abort()}, {-1_000_001, 999_999, 0, pause()},
		{math.MinInt, 0, 0, pause()}, {math.MinInt, math.MaxInt, 0, abort()}, {math.MinInt, math.MaxInt, 1, pause()},
		{math.MinInt, math.MaxInt - 1, 0, pause()}, {math.MinInt, 0, math.MinInt, abort()}, {math.MinInt, 0, math.MinInt + 1, abort()}, {math.MinInt, 0, math.MinInt + 2, pause()},
	} {
		checkDecide(t, met(q.tries), me(q.mine), foe(q.foes), 3, 64, q.want, met(q.tries+1))
	}
}

// P7.1: priorities below 0 are held against each other like any others.
func TestPrioritiesBelowZero(t *testing.T) {
	for _, q := range []struct {
		tries, mine, foes int
		want              choice.Decision
	}{
		{0, -1, 0, abort()}, {0, -2, 0, pause()}, {0, 0, -1, abort()}, {0, -1, -1, abort()}, {0, -2, -1, abort()}, {0, -3, -1, pause()},
		{3, -4, 0, abort()}, {3, -5, 0, pause()}, {3, -9, -5, abort()}, {3, -10, -5, pause()},
		{7, -8, 0, abort()}, {7, -9, 0, pause()}, {7, -9, -1, abort()}, {8, -100, 100, abort()}, {8, -100, -1, abort()},
	} {
		checkDecide(t, met(q.tries), me(q.mine), foe(q.foes), 3, 64, q.want, met(q.tries+1))
	}
}

// P7.1: priorities at the ends of what an int can be, as far as they fit into one together with the tries.
func TestPrioritiesAtTheEnds(t *testing.T) {
	for _, q := range []struct {
		tries, mine, foes int
		want              choice.Decision
	}{
		{0, math.MaxInt - 1, math.MaxInt, abort()}, {0, math.MaxInt - 2, math.MaxInt, pause()}, {0, math.MaxInt - 1, math.MinInt, abort()},
		{7, math.MaxInt - 8, math.MaxInt, abort()}, {7, math.MaxInt - 9, math.MaxInt, pause()}, {7, math.MaxInt - 9, math.MaxInt - 1, abort()},
		{0, 0, math.MaxInt, pause()}, {0, math.MinInt, math.MaxInt, pause()}, {7, math.MinInt, math.MaxInt, pause()}, {8, math.MinInt, math.MaxInt, abort()},
		{0, math.MinInt, math.MinInt, abort()}, {0, math.MinInt, math.MinInt + 1, abort()}, {0, math.MinInt, math.MinInt + 2, pause()},
		{7, math.MinInt, math.MinInt + 8, abort()}, {7, math.MinInt, math.MinInt + 9, pause()}, {0, math.MinInt, 0, pause()},
		{0, 0, math.MinInt, abort()}, {-1, math.MinInt, math.MinInt, abort()}, {-1, math.MinInt, math.MinInt + 1, pause()},
		{-1, math.MaxInt, math.MaxInt, abort()}, {-2, math.MaxInt, math.MaxInt, pause()}, {-2, math.MaxInt, math.MaxInt - 1, abort()},
	} {
		checkDecide(t, met(q.tries), me(q.mine), foe(q.foes), 3, 64, q.want, met(q.tries+1))
	}
}

// P7.1: another foe is met for the first time, its pulse is the one that was seen, and not looked at yet; Yields stays. It is decided by that try.
func TestAnotherFoe(t *testing.T) {
	behind := choice.State{Foe: 8, Tries: 1, Yields: 2, Pulse: 21, Looks: 0}
	for _, by := range numbers() {
		for _, mine := range []int{0, 5, -5} {
			for _, q := range []struct {
				more int
				want choice.Decision
			}{{-1, abort()}, {0, abort()}, {1, abort()}, {2, pause()}, {3, pause()}, {100, pause()}} {
				other := choice.Side{Id: 8, Stamp: 1, Priority: mine + q.more, Pulse: 21}
				checkDecide(t, met(by), me(mine), other, 3, 64, q.want, behind)
			}
		}
	}
	fresh := choice.State{Foe: 8, Tries: 1, Pulse: 21}
	checkDecide(t, choice.Fresh(), me(0), choice.Side{Id: 8, Priority: 2, Pulse: 21}, 3, 64, pause(), fresh)
	checkDecide(t, choice.Fresh(), me(0), choice.Side{Id: 8, Priority: 1, Pulse: 21}, 3, 64, abort(), fresh)
}

// P7.1: what the same foe is met by tells its tries alone: the pulse that was seen stays, and so does how often.
func TestTheSameFoe(t *testing.T) {
	for _, n := range numbers() {
		s := choice.State{Foe: n, Tries: 2, Yields: n, Pulse: 5, Looks: n}
		behind := choice.State{Foe: n, Tries: 3, Yields: n, Pulse: 5, Looks: n}
		checkDecide(t, s, me(1), choice.Side{Id: n, Priority: 5, Pulse: 6}, 6, 64, pause(), behind)
		checkDecide(t, s, me(1), choice.Side{Id: n, Priority: 4, Pulse: 6}, 6, 64, abort(), behind)
		s.Tries, behind.Tries = 8, 9
		checkDecide(t, s, me(1), choice.Side{Id: n, Priority: 50, Pulse: 6}, 6, 64, abort(), behind)
	}
}

// P7.1: nothing else plays a part: not the numbers, stamps and pulses of both or whether they are waiting, not how often one gave way or looked.
func TestNothingElse(t *testing.T) {
	for _, n := range numbers() {
		for _, waiting := range []bool{false, true} {
			asks := choice.Side{Id: n, Stamp: n, Priority: 1, Pulse: n, Waiting: waiting}
			same := choice.Side{Id: 7, Stamp: -n, Priority: 6, Pulse: n, Waiting: !waiting}
			s := choice.State{Foe: 7, Tries: 3, Yields: n, Pulse: n, Looks: n}
			behind := choice.State{Foe: 7, Tries: 4, Yields: n, Pulse: n, Looks: n}
			checkDecide(t, s, asks, same, n, 64, pause(), behind)
			same.Priority = 5
			checkDecide(t, s, asks, same, n, 64, abort(), behind)
			s.Tries, behind.Tries, same.Priority = 8, 9, 50
			checkDecide(t, s, asks, same, n, 64, abort(), behind)
		}
	}
	itself := foe(9)
	checkDecide(t, met(1), itself, itself, 2, 64, abort(), met(2))
}

// P7.1: of any numbers there is a decision to abort, or to wait one step, the same each time; it is the one that the document says, where my priority and the tries together fit into an int.
func TestAnyNumbers(t *testing.T) {
	for _, a := range numbers() {
		for _, b := range numbers() {
			for _, c := range numbers() {
				s := choice.State{Foe: b, Tries: a, Yields: c, Pulse: a, Looks: b}
				asks := choice.Side{Id: a, Stamp: b, Priority: c, Pulse: a, Waiting: a > b}
				other := choice.Side{Id: c, Stamp: a, Priority: b, Pulse: c, Waiting: b > c}
				d, behind := karma.Manager{}.Decide(s, asks, other, b, c)
				if d != pause() && d != abort() || !choice.Ok(d, max(c, 1)) || behind != choice.Met(s, other) {
					t.Errorf("Decide(%+v, %+v, %+v, %d, %d): %+v, %+v", s, asks, other, b, c, d, behind)
				}
				checkDecide(t, s, asks, other, b, c, d, behind)
				n, fits := sum(asks.Priority, behind.Tries)
				if right := behind.Tries > 8 || n.Cmp(big.NewInt(int64(b))) >= 0; fits && right != (d == abort()) {
					t.Errorf("Decide(%+v, %+v, %+v, %d, %d): %+v", s, asks, other, b, c, d)
				}
			}
		}
	}
}

// P7.2: one foe is met with as many waits as it did more than I and one, but eight at most, and aborted then, at each meeting from there on.
func TestEightWaits(t *testing.T) {
	for _, mine := range []int{0, 3, -3, 1_000_000, -1_000_000, math.MaxInt - 100} {
		for more := -5; more <= 40; more++ {
			s, waits := choice.Fresh(), max(0, min(more-1, 8))
			for meeting := 1; meeting <= 20; meeting++ {
				d, behind := karma.Manager{}.Decide(s, me(mine), foe(mine+more), meeting, 64)
				if s = behind; (d == pause()) != (meeting <= waits) || (d == abort()) != (meeting > waits) {
					t.Errorf("my priority %d, the foe's %d more, meeting %d: %+v", mine, more, meeting, d)
				}
			}
		}
	}
}

// P7.2: eight waits and no more, whatever is drawn, and however long may be waited, and even of a foe whose priority goes on.
func TestEightWaitsOfAnyFoe(t *testing.T) {
	for _, draw := range numbers() {
		for _, wait := range numbers() {
			s := choice.Fresh()
			for meeting := 1; meeting <= 20; meeting++ {
				d, behind := karma.Manager{}.Decide(s, me(0), foe(100*meeting), draw, wait)
				want := pause()
				if meeting > 8 {
					want = abort()
				}
				if s = behind; d != want || s != (choice.State{Foe: 7, Tries: meeting, Pulse: 9}) {
					t.Errorf("draw %d, wait %d, meeting %d: %+v, %+v", draw, wait, meeting, d, s)
				}
			}
		}
	}
}

// P7.2: who has the greater priority doesn't wait, however often, if ever, it met that foe; nor does who has the same one, or one less.
func TestTheGreaterDoesNotWait(t *testing.T) {
	for _, foes := range []int{0, 1, 7, 8, 9, 100, 1_000_000, -1, -9, -1_000_000, math.MinInt + 1, math.MaxInt32} {
		for _, more := range []int{-1, 0, 1, 2, 9, 1000} {
			for _, s := range []choice.State{choice.Fresh(), {}, met(0), met(1), met(7), met(8), met(9), met(top)} {
				if d, _ := (karma.Manager{}).Decide(s, me(foes+more), foe(foes), 5, 64); d != abort() {
					t.Errorf("my priority %d, the foe's %d, %d tries by now: %+v", foes+more, foes, s.Tries, d)
				}
			}
		}
	}
}

// P7.2: of two that meet each other one at most waits.
func TestTwoThatMeet(t *testing.T) {
	for a := -10; a <= 10; a++ {
		for b := -10; b <= 10; b++ {
			one := choice.Side{Id: 1, Priority: a}
			other := choice.Side{Id: 2, Priority: b}
			d, _ := karma.Manager{}.Decide(choice.Fresh(), one, other, 0, 64)
			e, _ := karma.Manager{}.Decide(choice.Fresh(), other, one, 0, 64)
			if d != abort() && e != abort() {
				t.Errorf("priorities %d and %d: %+v, %+v", a, b, d, e)
			}
		}
	}
}

// P7.2: of all short rows of foes each is aborted just where the same one is met more than eight times together; another one between them begins anew.
func TestFoesInTurn(t *testing.T) {
	const foes, length = 2, 14
	for row := range 1 << length {
		s := choice.Fresh()
		together, last := 0, -1
		for i := range length {
			id := row >> i % foes
			if together++; id != last {
				together, last = 1, id
			}
			d, behind := karma.Manager{}.Decide(s, me(0), choice.Side{Id: id, Priority: 50}, 1, 64)
			want := pause()
			if together > 8 {
				want = abort()
			}
			if s = behind; d != want || s != (choice.State{Foe: id, Tries: together}) {
				t.Fatalf("row %b, place %d: %+v, %+v, met %d times together", row, i, d, s, together)
			}
		}
	}
}

// P7.2: from no state on, whose tries are 0 or more, is the same foe met with more than eight waits.
func TestEightWaitsFromAnyState(t *testing.T) {
	for _, by := range []int{0, 1, 2, 6, 7, 8, 9, 10, 100, 999_999, 1_000_000, 1_000_001, math.MaxInt} {
		s, waits := met(by), 0
		for range 20 {
			d, behind := karma.Manager{}.Decide(s, me(0), foe(5_000_000), 5, 64)
			if s = behind; d.Kind == choice.Wait {
				waits++
			}
		}
		if want := max(0, 8-by); waits != want {
			t.Errorf("from %d tries on: %d waits, not %d", by, waits, want)
		}
	}
}
