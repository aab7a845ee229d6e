package greedy_test

import (
	"math"
	"testing"

	"quarrel/choice"
	"quarrel/greedy"
)

// top is where Tries and Looks stay.
const top = 1_000_000

// numbers are ordinary ones, the edges of tries, looks and waits among them, and the ends of what an int can be.
func numbers() []int {
	return []int{
		0, 1, 2, 3, 5, 7, 9, 63, 64, 65, 999_999, 1_000_000, 1_000_001, math.MaxInt32, math.MaxInt - 1, math.MaxInt,
		-1, -2, -3, -7, -64, -1_000_000, math.MinInt32, math.MinInt + 1, math.MinInt,
	}
}

// fewer are some of the numbers, for what is asked of all of several ones together.
func fewer() []int { return []int{0, 1, 7, -1, 999_999, 1_000_000, math.MaxInt, math.MinInt} }

// waits are how long may be waited: from 1 to 64, as the program has it, and what may be handed in beside that.
func waits() []int {
	return []int{1, 2, 3, 8, 63, 64, 65, 999_998, 999_999, 1_000_000, math.MaxInt, 0, -1, -2, -64, math.MinInt}
}

// counts are numbers of times, and what each is behind one more.
func counts() [][2]int {
	return [][2]int{
		{0, 1}, {1, 2}, {2, 3}, {3, 4}, {62, 63}, {63, 64}, {64, 65}, {65, 66}, {1000, 1001},
		{999_998, 999_999}, {999_999, top}, {1_000_000, top}, {1_000_001, top}, {math.MaxInt - 1, top}, {math.MaxInt, top},
		{-1, 0}, {-2, -1}, {-3, -2}, {-64, -63}, {-1_000_000, -999_999}, {-1_000_001, -1_000_000},
		{math.MinInt32, math.MinInt32 + 1}, {math.MinInt + 1, math.MinInt + 2}, {math.MinInt, math.MinInt + 1},
	}
}

// stamps are my stamp and the foe's, of which I am not the elder one: just the same, one above, and far above.
func stamps() [][2]int {
	return [][2]int{
		{3, 3}, {4, 3}, {5, 3}, {100, 3}, {0, 0}, {1, 0}, {255, 254}, {255, 0},
		{-1, -1}, {0, -1}, {-1, -2}, {-5, -1000}, {7, -7},
		{math.MaxInt, math.MaxInt}, {math.MaxInt, math.MaxInt - 1}, {math.MaxInt, math.MinInt}, {math.MaxInt, -1}, {0, math.MinInt},
		{math.MinInt, math.MinInt}, {math.MinInt + 1, math.MinInt},
	}
}

// elders are my stamp and the foe's, of which I am the elder one: one below, and far below.
func elders() [][2]int {
	return [][2]int{
		{2, 3}, {1, 3}, {0, 3}, {0, 1}, {254, 255}, {0, 255}, {3, 100},
		{-1, 0}, {-2, -1}, {-1000, -5}, {-7, 7},
		{math.MaxInt - 1, math.MaxInt}, {math.MinInt, math.MaxInt}, {-1, math.MaxInt}, {math.MinInt, 0}, {math.MinInt, math.MinInt + 1},
	}
}

// pause is the one wait by this manager.
func pause() choice.Decision { return choice.Decision{Kind: choice.Wait, Steps: 1} }

// abort is that the foe is to be aborted.
func abort() choice.Decision { return choice.Decision{Kind: choice.Abort} }

// either is the decision to abort where a pulse stands, and else to wait.
func either(stands bool) choice.Decision {
	if stands {
		return abort()
	}
	return pause()
}

// seen is a state that has met the foe 7 so many times, and looked at the pulse 9 of it so many times.
func seen(tries, looks int) choice.State {
	return choice.State{Foe: 7, Tries: tries, Yields: 2, Pulse: 9, Looks: looks}
}

// foe is the one that the states of seen have met, of the pulse that they saw.
func foe(stamp int) choice.Side { return choice.Side{Id: 7, Stamp: stamp, Priority: 4, Pulse: 9} }

// beating is the foe of another pulse.
func beating(stamp, pulse int) choice.Side {
	f := foe(stamp)
	f.Pulse = pulse
	return f
}

// waiting is a side that is waiting.
func waiting(side choice.Side) choice.Side {
	side.Waiting = true
	return side
}

// me is who asks.
func me(stamp int) choice.Side { return choice.Side{Id: 3, Stamp: stamp, Priority: 8, Pulse: 11} }

// checkDecide asks for a decision, and the state behind it.
func checkDecide(t *testing.T, s choice.State, me, foe choice.Side, draw, wait int, want choice.Decision, behind choice.State) {
	t.Helper()
	d, got := greedy.Manager{}.Decide(s, me, foe, draw, wait)
	if d != want || got != behind {
		t.Errorf("Decide(%+v, %+v, %+v, %d, %d): %+v, %+v, not %+v, %+v", s, me, foe, draw, wait, d, got, want, behind)
	}
}

// P9.1: a manager stands behind the interface of layer 5, by a pointer too.
func TestManager(t *testing.T) {
	for _, m := range []choice.Manager{greedy.Manager{}, &greedy.Manager{}} {
		s := seen(1, 1)
		for i, want := range []choice.Decision{pause(), pause(), abort(), abort()} {
			d, behind := m.Decide(s, me(5), foe(3), 3, 3)
			if s = behind; d != want || s != seen(2+i, 2+i) || !m.Marks() {
				t.Errorf("place %d: %+v, %+v, %v", i, d, s, m.Marks())
			}
		}
	}
}

// P9.1: who waits by it says so, whatever it decided.
func TestMarks(t *testing.T) {
	m := greedy.Manager{}
	for looks := range 8 {
		if !m.Marks() {
			t.Errorf("%d decisions behind: no Marks", looks)
		}
		m.Decide(seen(looks, looks), me(5), foe(3), looks, 4)
	}
}

// The chapter's example.
func TestExample(t *testing.T) {
	s := choice.Fresh()
	for i := range 200 {
		looks := 0
		if i == 0 {
			looks = 1
		}
		behind := choice.State{Foe: 7, Tries: i + 1, Pulse: 20 + i, Looks: looks}
		checkDecide(t, s, me(5), beating(3, 20+i), 0, 8, pause(), behind)
		s = behind
	}
}

// P9.1: the elder one has the foe aborted, however often it was met and looked at, waiting or not, whatever is drawn, and however long may be waited; it doesn't look at the pulse.
func TestTheElder(t *testing.T) {
	for _, st := range elders() {
		for _, c := range counts() {
			for _, pulse := range []int{9, 10, 8, 0, -1, math.MaxInt, math.MinInt} {
				for _, wait := range waits() {
					checkDecide(t, seen(c[0], c[0]), me(st[0]), beating(st[1], pulse), wait, wait, abort(), seen(c[1], c[0]))
					checkDecide(t, seen(c[0], c[0]), me(st[0]), waiting(beating(st[1], pulse)), wait, wait, abort(), seen(c[1], c[0]))
				}
			}
		}
	}
}

// P9.1: a foe that is waiting is aborted, however old it is, and however far its pulse went on; nobody looks at that.
func TestTheFoeIsWaiting(t *testing.T) {
	for _, st := range stamps() {
		for _, c := range counts() {
			for _, pulse := range []int{9, 10, 8, 0, -1, math.MaxInt, math.MinInt} {
				for _, wait := range waits() {
					checkDecide(t, seen(c[0], c[0]), me(st[0]), waiting(beating(st[1], pulse)), wait, wait, abort(), seen(c[1], c[0]))
				}
			}
		}
	}
}

// P9.1: whether I am waiting plays no part.
func TestIAmWaiting(t *testing.T) {
	checkDecide(t, seen(1, 1), waiting(me(5)), foe(3), 0, 8, pause(), seen(2, 2))
	checkDecide(t, seen(8, 8), waiting(me(5)), foe(3), 0, 8, abort(), seen(9, 9))
	checkDecide(t, seen(1, 1), waiting(me(2)), foe(3), 0, 8, abort(), seen(2, 1))
	checkDecide(t, seen(1, 1), waiting(me(5)), waiting(foe(3)), 0, 8, abort(), seen(2, 1))
}

// P9.1: my stamp one below the foe's, just that, and one above, at each of the looks: the elder one alone doesn't look.
func TestByStamp(t *testing.T) {
	for _, foes := range []int{0, 1, 3, 7, 254, 1_000_000, -1, -3, -1_000_000, math.MaxInt - 1, math.MinInt + 1} {
		for by := range 12 {
			for _, wait := range []int{1, 2, 8, 64} {
				checkDecide(t, seen(by, by), me(foes-1), foe(foes), 7, wait, abort(), seen(by+1, by))
				checkDecide(t, seen(by, by), me(foes), foe(foes), 7, wait, either(by+1 > wait), seen(by+1, by+1))
				checkDecide(t, seen(by, by), me(foes+1), foe(foes), 7, wait, either(by+1 > wait), seen(by+1, by+1))
			}
		}
	}
}

// P9.1: the same pulse again is one look more, at most 1,000,000; it stands where that is more than may be waited.
func TestTheSamePulse(t *testing.T) {
	for _, st := range stamps() {
		for _, c := range counts() {
			for _, wait := range append(waits(), c[1]-1, c[1], c[1]+1) {
				checkDecide(t, seen(3, c[0]), me(st[0]), foe(st[1]), 3, wait, either(c[1] > wait), seen(4, c[1]))
			}
		}
	}
}

// P9.1: looks of wait - 1, wait, wait + 1 and wait + 2 by now, written out: of a wait of 1, of 64 and between.
func TestTheEdgesOfAWait(t *testing.T) {
	for _, wait := range []int{1, 2, 3, 8, 63, 64} {
		checkDecide(t, seen(3, 0), me(5), foe(3), 3, wait, pause(), seen(4, 1))
		checkDecide(t, seen(3, wait-1), me(5), foe(3), 3, wait, pause(), seen(4, wait))
		checkDecide(t, seen(3, wait), me(5), foe(3), 3, wait, abort(), seen(4, wait+1))
		checkDecide(t, seen(3, wait+1), me(5), foe(3), 3, wait, abort(), seen(4, wait+2))
		checkDecide(t, seen(3, wait+2), me(5), foe(3), 3, wait, abort(), seen(4, wait+3))
		checkDecide(t, seen(3, 1_000_000), me(5), foe(3), 3, wait, abort(), seen(4, 1_000_000))
		checkDecide(t, seen(1_000_000, 1_000_000), me(5), foe(3), 3, wait, abort(), seen(1_000_000, 1_000_000))
	}
}

// P9.1: another pulse, by one further or by any other number, is the one that is seen then, and not looked at again yet, however often the one ahead of it was; so it is waited.
func TestAnotherPulse(t *testing.T) {
	for _, st := range stamps() {
		for _, pulse := range []int{10, 8, 11, 0, 1, 3, 7, -1, -9, math.MaxInt, math.MinInt} {
			for _, looks := range append(numbers(), 4, 8) {
				for _, wait := range []int{0, 1, 2, 8, 64, top, math.MaxInt} {
					behind := choice.State{Foe: 7, Tries: 4, Yields: 2, Pulse: pulse, Looks: 0}
					checkDecide(t, seen(3, looks), me(st[0]), beating(st[1], pulse), 3, wait, pause(), behind)
				}
			}
		}
	}
}

// P9.1: pulses of any numbers, below 0 and at the ends too, are the same or not: it isn't asked which is the greater one.
func TestPulses(t *testing.T) {
	for _, has := range numbers() {
		for _, pulse := range numbers() {
			s := choice.State{Foe: 7, Tries: 3, Pulse: has, Looks: 8}
			want, behind := pause(), choice.State{Foe: 7, Tries: 4, Pulse: pulse, Looks: 0}
			if has == pulse {
				want, behind.Looks = abort(), 9
			}
			checkDecide(t, s, me(5), beating(3, pulse), 3, 8, want, behind)
		}
	}
}

// P9.1: a foe that is met for the first time is looked at with its own pulse, whatever pulse was seen of others: that is the first look; Yields stays.
func TestAnotherFoe(t *testing.T) {
	for _, id := range numbers() {
		for _, n := range fewer() {
			for _, pulse := range fewer() {
				s := choice.State{Foe: 12, Tries: n, Yields: n, Pulse: pulse, Looks: n}
				other := choice.Side{Id: id, Stamp: 3, Pulse: 9}
				met := choice.State{Foe: id, Tries: 1, Yields: n, Pulse: 9, Looks: 0}
				looked := choice.State{Foe: id, Tries: 1, Yields: n, Pulse: 9, Looks: 1}
				checkDecide(t, s, me(5), other, 3, 1, pause(), looked)
				checkDecide(t, s, me(3), other, 3, 64, pause(), looked)
				checkDecide(t, s, me(5), other, 3, 0, abort(), looked)
				checkDecide(t, s, me(5), other, 3, -1, abort(), looked)
				checkDecide(t, s, me(2), other, 3, 64, abort(), met)
				checkDecide(t, s, me(5), waiting(other), 3, 64, abort(), met)
			}
		}
	}
	fresh := choice.State{Foe: 7, Tries: 1, Pulse: 9, Looks: 1}
	checkDecide(t, choice.Fresh(), me(5), foe(3), 3, 64, pause(), fresh)
	checkDecide(t, choice.Fresh(), me(5), beating(3, 0), 3, 64, pause(), choice.State{Foe: 7, Tries: 1, Looks: 1})
	fresh.Looks = 0
	checkDecide(t, choice.Fresh(), me(2), foe(3), 3, 64, abort(), fresh)
	checkDecide(t, choice.Fresh(), me(5), waiting(foe(3)), 3, 64, abort(), fresh)
}

// P9.1: how often the same foe was met is counted, and plays no part: it is looks that are held against the wait.
func TestTriesPlayNoPart(t *testing.T) {
	for _, c := range counts() {
		for _, looks := range []int{0, 1, 6, 7, 8, 9, 64} {
			checkDecide(t, seen(c[0], looks), me(5), foe(3), 3, 8, either(looks+1 > 8), seen(c[1], looks+1))
			behind := choice.State{Foe: 7, Tries: c[1], Yields: 2, Pulse: 10}
			checkDecide(t, seen(c[0], looks), me(5), beating(3, 10), 3, 8, pause(), behind)
		}
	}
}

// P9.1: looks below 0 are held against the wait as they are.
func TestLooksBelowZero(t *testing.T) {
	for _, q := range []struct {
		looks, wait int
		want        choice.Decision
	}{
		{-1, 0, pause()}, {-1, 1, pause()}, {-1, 64, pause()}, {-1, -1, abort()}, {-2, -1, pause()}, {-2, -2, abort()},
		{-64, 1, pause()}, {-64, -63, pause()}, {-64, -64, abort()}, {-1_000_001, -1_000_000, pause()}, {-1_000_000, -1_000_000, abort()},
		{math.MinInt, 64, pause()}, {math.MinInt, math.MinInt, abort()}, {math.MinInt, math.MinInt + 1, pause()}, {math.MinInt + 1, math.MinInt + 1, abort()},
	} {
		checkDecide(t, seen(-5, q.looks), me(5), foe(3), 3, q.wait, q.want, seen(-4, q.looks+1))
	}
}

// P9.1: of a wait of 0 the first look at a pulse tells that it stands, but not one at another pulse; of one below 0 that does too.
func TestWaitBelowOne(t *testing.T) {
	further := choice.State{Foe: 7, Tries: 2, Yields: 2, Pulse: 10}
	for _, st := range stamps() {
		for _, wait := range []int{0, -1, -2, -64, math.MinInt} {
			checkDecide(t, seen(1, 0), me(st[0]), foe(st[1]), 3, wait, abort(), seen(2, 1))
			checkDecide(t, seen(1, 1), me(st[0]), foe(st[1]), 3, wait, abort(), seen(2, 2))
			checkDecide(t, seen(1, 1), me(st[0]), beating(st[1], 10), 3, wait, either(wait < 0), further)
		}
	}
}

// P9.1: it is waited one step, whatever is drawn, and however long may be waited; where a pulse stands hangs on no draw either.
func TestWaitIsOneStep(t *testing.T) {
	for _, draw := range numbers() {
		for _, wait := range numbers() {
			further := choice.State{Foe: 7, Tries: 2, Yields: 2, Pulse: 10}
			checkDecide(t, seen(1, 1), me(5), beating(3, 10), draw, wait, either(wait < 0), further)
			checkDecide(t, seen(1, 1), me(5), foe(3), draw, wait, either(wait < 2), seen(2, 2))
			checkDecide(t, seen(1, 1), me(2), foe(3), draw, wait, abort(), seen(2, 1))
		}
	}
}

// P9.1: nothing else plays a part: not the numbers and priorities of both, not my pulse or whether I am waiting, not how often one gave way.
func TestNothingElse(t *testing.T) {
	for _, n := range numbers() {
		for _, sits := range []bool{false, true} {
			asks := choice.Side{Id: n, Stamp: 5, Priority: n, Pulse: n, Waiting: sits}
			same := choice.Side{Id: n, Stamp: 3, Priority: -n, Pulse: 9}
			s := choice.State{Foe: n, Tries: 3, Yields: n, Pulse: 9, Looks: 7}
			behind := choice.State{Foe: n, Tries: 4, Yields: n, Pulse: 9, Looks: 8}
			checkDecide(t, s, asks, same, n, 8, pause(), behind)
			checkDecide(t, s, asks, same, n, 7, abort(), behind)
			asks.Stamp, behind.Looks = 2, 7
			checkDecide(t, s, asks, same, n, 8, abort(), behind)
		}
	}
	itself := foe(9)
	checkDecide(t, seen(1, 1), itself, itself, 2, 64, pause(), seen(2, 2))
}

// told is what the chapters say, of numbers in all: whoever has met the foe and looked at it, whether that is to be aborted, and the state behind it.
func told(s choice.State, mine int, foe choice.Side, wait int) (bool, choice.State) {
	up := func(n int) int {
		if n >= top {
			return top
		}
		return n + 1
	}
	if s.Foe == foe.Id {
		s.Tries = up(s.Tries)
	} else {
		s.Foe, s.Tries, s.Pulse, s.Looks = foe.Id, 1, foe.Pulse, 0
	}
	if mine < foe.Stamp || foe.Waiting {
		return true, s
	}
	if s.Pulse == foe.Pulse {
		s.Looks = up(s.Looks)
	} else {
		s.Pulse, s.Looks = foe.Pulse, 0
	}
	return s.Looks > wait, s
}

// P9.1: of any numbers there is the decision that the document says, the same each time, and it may be.
func TestAnyNumbers(t *testing.T) {
	for _, a := range numbers() {
		for _, b := range numbers() {
			for _, c := range numbers() {
				for _, q := range [][3]int{{a, b, c}, {b, a, a}, {c, c, b}, {9, b, 9}} {
					s := choice.State{Foe: b, Tries: a, Yields: c, Pulse: q[0], Looks: b}
					asks := choice.Side{Id: a, Stamp: q[1], Priority: c, Pulse: a, Waiting: a > b}
					other := choice.Side{Id: q[2], Stamp: a, Priority: b, Pulse: q[2], Waiting: b > a && c > 7}
					stands, behind := told(s, q[1], other, c)
					for range 2 {
						checkDecide(t, s, asks, other, b, c, either(stands), behind)
					}
					if d := either(stands); !choice.Ok(d, max(c, 1)) {
						t.Errorf("%+v may not be", d)
					}
				}
			}
		}
	}
}

// P9.2: an elder foe, or one just as old, whose pulse stands is met with as many waits as may be waited, and aborted at the look behind that, and at each one from there on.
func TestWaitAndOneLooks(t *testing.T) {
	for _, st := range stamps() {
		for wait := 1; wait <= 64; wait++ {
			s := choice.Fresh()
			for look := 1; look <= wait+5; look++ {
				d, behind := greedy.Manager{}.Decide(s, me(st[0]), foe(st[1]), look, wait)
				if s = behind; d != either(look >= wait+1) || s != (choice.State{Foe: 7, Tries: look, Pulse: 9, Looks: look}) {
					t.Errorf("stamps %v, wait %d, look %d: %+v, %+v", st, wait, look, d, s)
				}
			}
		}
	}
}

// P9.2: one that is younger, or waits, is aborted at once, whatever was seen of it; one that isn't any more is looked at from there on.
func TestAtOnce(t *testing.T) {
	for _, wait := range []int{1, 2, 8, 64} {
		for _, st := range elders() {
			checkDecide(t, choice.Fresh(), me(st[0]), foe(st[1]), 3, wait, abort(), choice.State{Foe: 7, Tries: 1, Pulse: 9})
		}
		for _, st := range stamps() {
			s := choice.Fresh()
			for meeting := 1; meeting <= 5; meeting++ {
				behind := choice.State{Foe: 7, Tries: meeting, Pulse: 9}
				checkDecide(t, s, me(st[0]), waiting(foe(st[1])), 3, wait, abort(), behind)
				s = behind
			}
			for look := 1; look <= wait+2; look++ {
				behind := choice.State{Foe: 7, Tries: 5 + look, Pulse: 9, Looks: look}
				checkDecide(t, s, me(st[0]), foe(st[1]), 3, wait, either(look > wait), behind)
				s = behind
			}
		}
	}
}

// P9.2: a foe that waits in between is aborted then, and that is no look: it takes as many of them as ever till its pulse stands.
func TestWaitsInBetween(t *testing.T) {
	const wait = 8
	s := choice.Fresh()
	for look := 1; look <= wait+3; look++ {
		d, behind := greedy.Manager{}.Decide(s, me(5), foe(3), 0, wait)
		if d != either(look > wait) || behind.Looks != look {
			t.Errorf("look %d: %+v, %+v", look, d, behind)
		}
		s = behind
		d, behind = greedy.Manager{}.Decide(s, me(5), waiting(beating(3, 9+look%2)), 0, wait)
		if d != abort() || behind.Looks != look || behind.Pulse != 9 {
			t.Errorf("look %d, waiting: %+v, %+v", look, d, behind)
		}
		s = behind
	}
}

// P9.2: a foe whose pulse goes on at each look is waited for without an end.
func TestGoesOnForGood(t *testing.T) {
	for _, wait := range []int{1, 2, 64} {
		s := choice.Fresh()
		for i := range top + 5 {
			d, behind := greedy.Manager{}.Decide(s, me(5), beating(3, i), 0, wait)
			looks := 0
			if i == 0 {
				looks = 1
			}
			if s = behind; d != pause() || s != (choice.State{Foe: 7, Tries: min(i+1, top), Pulse: i, Looks: looks}) {
				t.Fatalf("wait %d, meeting %d: %+v, %+v", wait, i+1, d, s)
			}
		}
	}
}

// P9.2: a foe whose pulse stands for good is aborted at each look but the first ones, and its looks are counted up to 1,000,000.
func TestStandsForGood(t *testing.T) {
	s := choice.Fresh()
	for i := range top + 5 {
		d, behind := greedy.Manager{}.Decide(s, me(5), foe(3), 0, 64)
		n := min(i+1, top)
		if s = behind; d != either(i+1 > 64) || s != (choice.State{Foe: 7, Tries: n, Pulse: 9, Looks: n}) {
			t.Fatalf("look %d: %+v, %+v", i+1, d, s)
		}
	}
	checkDecide(t, s, me(5), beating(3, 10), 0, 64, pause(), choice.State{Foe: 7, Tries: top, Pulse: 10})
	checkDecide(t, s, me(5), choice.Side{Id: 8, Stamp: 3, Pulse: 9}, 0, 64, pause(), choice.State{Foe: 8, Tries: 1, Pulse: 9, Looks: 1})
}

// P9.2: a foe whose pulse goes on at the last look ahead of its end is waited for anew, each time: behind a look that saw another pulse it takes wait + 1 further ones.
func TestGoesOnAtTheLastLook(t *testing.T) {
	for _, wait := range []int{1, 2, 3, 8, 64} {
		s, pulse := choice.Fresh(), 20
		// The look that the first meeting begins with is one at the pulse it met; behind that the look number wait + 1 would be the end.
		for round := range 6 {
			if round > 0 {
				behind := choice.State{Foe: 7, Tries: s.Tries + 1, Pulse: pulse}
				checkDecide(t, s, me(5), beating(3, pulse), 0, wait, pause(), behind)
				s = behind
			}
			for look := 1; look <= wait; look++ {
				d, behind := greedy.Manager{}.Decide(s, me(5), beating(3, pulse), 0, wait)
				if s = behind; d != pause() || s.Looks != look {
					t.Errorf("wait %d, round %d, look %d: %+v, %+v", wait, round, look, d, s)
				}
			}
			if d, _ := (greedy.Manager{}).Decide(s, me(5), beating(3, pulse), 0, wait); d != abort() {
				t.Errorf("wait %d, round %d, the last look: %+v", wait, round, d)
			}
			pulse++
		}
	}
}

// P9.2: of all short rows of meetings, of two foes whose pulses go on or stand, each that isn't waiting is aborted just behind wait + 1 looks at one and the same pulse, with no other one and no other foe between.
func TestRowsOfMeetings(t *testing.T) {
	const length = 7
	for _, wait := range []int{1, 2, 3} {
		for bits := range 1 << (2 * length) {
			s := choice.Fresh()
			pulses := [2]int{10, 20}
			looks, last := 0, -1
			for i := range length {
				id, goes := bits>>(2*i)&1, bits>>(2*i+1)&1 == 1
				if goes {
					pulses[id]++
				}
				// The pulse that a foe is met with first has been looked at once then; one that goes on later hasn't yet.
				switch {
				case id != last:
					looks = 1
				case goes:
					looks = 0
				default:
					looks++
				}
				last = id
				d, behind := greedy.Manager{}.Decide(s, me(5), choice.Side{Id: id, Stamp: 3, Pulse: pulses[id]}, 0, wait)
				if s = behind; d != either(looks > wait) || s.Looks != looks || s.Pulse != pulses[id] || s.Foe != id {
					t.Fatalf("wait %d, row %b, place %d: %+v, %+v, looked %d times", wait, bits, i, d, s, looks)
				}
			}
		}
	}
}

// P9.2: of two that meet each other, of different stamps and neither waiting, just one waits; of the same stamp both do; who waits and says so is aborted by the other one.
func TestTwoThatMeet(t *testing.T) {
	for a := range 12 {
		for b := range 12 {
			one := choice.Side{Id: 1, Stamp: a}
			other := choice.Side{Id: 2, Stamp: b}
			d, _ := greedy.Manager{}.Decide(choice.Fresh(), one, other, 0, 64)
			e, _ := greedy.Manager{}.Decide(choice.Fresh(), other, one, 0, 64)
			if d != either(a < b) || e != either(b < a) {
				t.Errorf("stamps %d and %d: %+v, %+v", a, b, d, e)
			}
			if d, _ := (greedy.Manager{}).Decide(choice.Fresh(), one, waiting(other), 0, 64); d != abort() {
				t.Errorf("stamps %d and %d, the other one waits: %+v", a, b, d)
			}
		}
	}
}

// P9.2: from no state on, whose looks are 0 or more, is an elder foe of one pulse aborted otherwise than where it was looked at more than wait times.
func TestFromAnyState(t *testing.T) {
	for _, by := range []int{0, 1, 2, 7, 8, 9, 10, 63, 64, 65, 66, 999_999, 1_000_000, 1_000_001, math.MaxInt} {
		for _, wait := range []int{1, 8, 64} {
			s, paused := seen(by, by), 0
			for range 80 {
				d, behind := greedy.Manager{}.Decide(s, me(5), foe(3), 5, wait)
				if s = behind; d == pause() {
					paused++
				}
			}
			if want := max(0, wait-by); paused != want {
				t.Errorf("from %d looks on, wait %d: %d waits, not %d", by, wait, paused, want)
			}
		}
	}
}
