package stamp_test

import (
	"math"
	"testing"

	"quarrel/choice"
	"quarrel/stamp"
)

// top is where Tries stays.
const top = 1_000_000

// numbers are ordinary ones, the edges of tries and of waits among them, and the ends of what an int can be.
func numbers() []int {
	return []int{
		0, 1, 2, 3, 4, 5, 7, 8, 63, 64, 65, 999_999, 1_000_000, 1_000_001, math.MaxInt32, math.MaxInt - 1, math.MaxInt,
		-1, -2, -3, -4, -5, -64, -1_000_000, math.MinInt32, math.MinInt + 1, math.MinInt,
	}
}

// yields are how often one gave way by now, for what is asked of who did, or of who can't be told to have done so any more.
func yields() []int { return []int{1, 2, 3, 1_000_000, math.MaxInt, -1, -2, math.MinInt} }

// tries are how often a foe was met by now, and how often behind one more.
func tries() [][2]int {
	return [][2]int{
		{0, 1}, {1, 2}, {2, 3}, {3, 4}, {4, 5}, {5, 6}, {6, 7}, {7, 8}, {63, 64}, {1000, 1001},
		{999_998, 999_999}, {999_999, top}, {1_000_000, top}, {1_000_001, top}, {math.MaxInt - 1, top}, {math.MaxInt, top},
		{-1, 0}, {-2, -1}, {-3, -2}, {-4, -3}, {-1_000_000, -999_999}, {-1_000_001, -1_000_000},
		{math.MinInt32, math.MinInt32 + 1}, {math.MinInt + 1, math.MinInt + 2}, {math.MinInt, math.MinInt + 1},
	}
}

// stamps are my stamp and the foe's, of which I am not the elder one: just the same, one above, and far above.
func stamps() [][2]int {
	return [][2]int{
		{3, 3}, {4, 3}, {5, 3}, {100, 3}, {0, 0}, {1, 0}, {255, 254}, {255, 0},
		{-1, -1}, {0, -1}, {-1, -2}, {-5, -1000}, {7, -7},
		{math.MaxInt, math.MaxInt}, {math.MaxInt, math.MaxInt - 1}, {math.MaxInt, math.MinInt}, {math.MaxInt, -1}, {0, math.MinInt},
		{math.MinInt, math.MinInt}, {math.MinInt + 1, math.MinInt},
	}
}

// elders are my stamp and the foe's, of which I am the elder one: one below, and far below.
func elders() [][2]int {
	return [][2]int{
		{2, 3}, {1, 3}, {0, 3}, {0, 1}, {254, 255}, {0, 255}, {3, 100},
		{-1, 0}, {-2, -1}, {-1000, -5}, {-7, 7},
		{math.MaxInt - 1, math.MaxInt}, {math.MinInt, math.MaxInt}, {-1, math.MaxInt}, {math.MinInt, 0}, {math.MinInt, math.MinInt + 1},
	}
}

// pause is a wait of so many steps.
func pause(steps int) choice.Decision { return choice.Decision{Kind: choice.Wait, Steps: steps} }

// abort is that the foe is to be aborted.
func abort() choice.Decision { return choice.Decision{Kind: choice.Abort} }

// yield is that one gives way.
func yield() choice.Decision { return choice.Decision{Kind: choice.Yield} }

// met is a state that has met the foe 7 so many times, and gave way so many times.
func met(tries, yields int) choice.State {
	return choice.State{Foe: 7, Tries: tries, Yields: yields, Pulse: 5, Looks: 3}
}

// foe is the one that the states of met have met, of another pulse by now.
func foe(stamp int) choice.Side {
	return choice.Side{Id: 7, Stamp: stamp, Priority: 4, Pulse: 9}
}

// me is who asks.
func me(stamp int) choice.Side {
	return choice.Side{Id: 3, Stamp: stamp, Priority: 8, Pulse: 11}
}

// checkDecide asks for a decision, and the state behind it.
func checkDecide(t *testing.T, s choice.State, me, foe choice.Side, draw, wait int, want choice.Decision, behind choice.State) {
	t.Helper()
	d, got := stamp.Manager{}.Decide(s, me, foe, draw, wait)
	if d != want || got != behind {
		t.Errorf("Decide(%+v, %+v, %+v, %d, %d): %+v, %+v, not %+v, %+v", s, me, foe, draw, wait, d, got, want, behind)
	}
}

// P8.1: a manager stands behind the interface of layer 5, by a pointer too.
func TestManager(t *testing.T) {
	for _, m := range []choice.Manager{stamp.Manager{}, &stamp.Manager{}} {
		s := met(2, 0)
		for i, want := range []choice.Decision{pause(17), yield(), abort()} {
			d, behind := m.Decide(s, me(5), foe(3), 3, 64)
			if s = behind; d != want || s != met(3+i, min(i, 1)) || m.Marks() {
				t.Errorf("place %d: %+v, %+v, %v", i, d, s, m.Marks())
			}
		}
	}
}

// P8.1: who waits by it doesn't say so, whatever it decided.
func TestMarks(t *testing.T) {
	m := stamp.Manager{}
	for tries := range 8 {
		if m.Marks() {
			t.Errorf("%d decisions behind: Marks", tries)
		}
		m.Decide(met(tries, 0), me(5), foe(3), tries, 64)
	}
}

// The chapter's example.
func TestExample(t *testing.T) {
	s := choice.Fresh()
	for i, want := range []choice.Decision{pause(3), pause(3), pause(3), yield(), abort(), abort()} {
		behind := choice.State{Foe: 7, Tries: i + 1, Pulse: 9}
		if i >= 3 {
			behind.Yields = 1
		}
		checkDecide(t, s, me(5), foe(3), 0, 8, want, behind)
		s = behind
	}
}

// P8.1: who is the elder one has the foe aborted, however often it was met, whether one gave way or not, whatever is drawn, and however long may be waited.
func TestTheElder(t *testing.T) {
	for _, st := range elders() {
		for _, c := range tries() {
			for _, gave := range append(yields(), 0) {
				for _, wait := range []int{64, 8, 1, 0, -1, math.MinInt, math.MaxInt} {
					checkDecide(t, met(c[0], gave), me(st[0]), foe(st[1]), wait, wait, abort(), met(c[1], gave))
				}
			}
		}
	}
}

// P8.1: my stamp one below the foe's, just that, and one above, at each of the tries: the elder one alone doesn't wait or give way.
func TestByStamp(t *testing.T) {
	for _, foes := range []int{0, 1, 3, 7, 254, 1_000_000, -1, -3, -1_000_000, math.MaxInt - 1, math.MinInt + 1} {
		for by, q := range []struct {
			want  choice.Decision
			gives int
		}{{pause(17), 0}, {pause(17), 0}, {pause(17), 0}, {yield(), 1}, {abort(), 0}, {abort(), 0}} {
			checkDecide(t, met(by, 0), me(foes-1), foe(foes), 3, 64, abort(), met(by+1, 0))
			checkDecide(t, met(by, 0), me(foes), foe(foes), 3, 64, q.want, met(by+1, q.gives))
			checkDecide(t, met(by, 0), me(foes+1), foe(foes), 3, 64, q.want, met(by+1, q.gives))
		}
	}
}

// P8.1: of all small stamps and tries, what is decided, written out by how the stamps stand.
func TestAllSmall(t *testing.T) {
	rows := map[bool][]choice.Decision{
		true:  {abort(), abort(), abort(), abort(), abort(), abort(), abort()},
		false: {pause(5), pause(5), pause(5), yield(), abort(), abort(), abort()},
	}
	for mine := -8; mine <= 8; mine++ {
		for foes := -8; foes <= 8; foes++ {
			for by, want := range rows[foes > mine] {
				behind := met(by+1, 0)
				if want == yield() {
					behind.Yields = 1
				}
				checkDecide(t, met(by, 0), me(mine), foe(foes), 1, 16, want, behind)
			}
		}
	}
}

// P8.1: it is waited a quarter of what may be waited, rounded down, and one, but no more than may be waited; and one step of a wait of 0.
func TestWait(t *testing.T) {
	for _, q := range []struct{ wait, steps int }{
		{0, 1}, {1, 1}, {2, 1}, {3, 1}, {4, 2}, {5, 2}, {6, 2}, {7, 2}, {8, 3}, {9, 3}, {11, 3}, {12, 4}, {15, 4}, {16, 5},
		{31, 8}, {32, 9}, {60, 16}, {63, 16}, {64, 17}, {65, 17}, {100, 26}, {1_000_000, 250_001}, {math.MaxInt32, 1 << 29},
		{math.MaxInt - 3, math.MaxInt/4 + 1}, {math.MaxInt - 4, math.MaxInt / 4}, {math.MaxInt, math.MaxInt/4 + 1},
	} {
		for by := range 3 {
			for _, st := range stamps() {
				checkDecide(t, met(by, 0), me(st[0]), foe(st[1]), 5, q.wait, pause(q.steps), met(by+1, 0))
				checkDecide(t, met(by, 1), me(st[0]), foe(st[1]), 5, q.wait, pause(q.steps), met(by+1, 1))
			}
		}
	}
}

// P8.1: of all small waits the steps are one more at each fourth of them.
func TestWaitGrows(t *testing.T) {
	steps := 1
	for wait := 1; wait <= 200; wait++ {
		if wait%4 == 0 {
			steps++
		}
		checkDecide(t, met(1, 0), me(5), foe(3), 7, wait, pause(steps), met(2, 0))
	}
}

// P8.1: of a wait below 0 it is still decided: to wait some steps, at least one, at the first three tries; and to give way or to abort as of any other.
func TestWaitBelowZero(t *testing.T) {
	for _, wait := range []int{-1, -2, -3, -4, -5, -8, -64, math.MinInt32, math.MinInt + 1, math.MinInt} {
		for by := range 3 {
			d, s := stamp.Manager{}.Decide(met(by, 0), me(5), foe(3), 7, wait)
			if d.Kind != choice.Wait || d.Steps < 1 || s != met(by+1, 0) {
				t.Errorf("wait %d, tries %d: %+v, %+v", wait, by, d, s)
			}
		}
		checkDecide(t, met(3, 0), me(5), foe(3), 7, wait, yield(), met(4, 1))
		checkDecide(t, met(3, 1), me(5), foe(3), 7, wait, abort(), met(4, 1))
		checkDecide(t, met(4, 0), me(5), foe(3), 7, wait, abort(), met(5, 0))
		checkDecide(t, met(1, 0), me(2), foe(3), 7, wait, abort(), met(2, 0))
	}
}

// P8.1: tries of 2, 3, 4 and 5 by now, and of more, with all else the same: the last wait, giving way, and decisions to abort from there on.
func TestTheLastWait(t *testing.T) {
	for _, st := range stamps() {
		for _, wait := range []int{1, 3, 4, 7, 8, 64} {
			checkDecide(t, met(2, 0), me(st[0]), foe(st[1]), 15, wait, pause(wait/4+1), met(3, 0))
			checkDecide(t, met(3, 0), me(st[0]), foe(st[1]), 15, wait, yield(), met(4, 1))
			checkDecide(t, met(4, 0), me(st[0]), foe(st[1]), 15, wait, abort(), met(5, 0))
			checkDecide(t, met(5, 0), me(st[0]), foe(st[1]), 15, wait, abort(), met(6, 0))
			checkDecide(t, met(1_000_000, 0), me(st[0]), foe(st[1]), 15, wait, abort(), met(top, 0))
		}
	}
}

// P8.1: who gave way doesn't at the fourth try: the foe is aborted, and how often one gave way stays; so of any number but 0.
func TestGaveWay(t *testing.T) {
	for _, st := range stamps() {
		for _, gave := range yields() {
			checkDecide(t, met(2, gave), me(st[0]), foe(st[1]), 15, 8, pause(3), met(3, gave))
			checkDecide(t, met(3, gave), me(st[0]), foe(st[1]), 15, 8, abort(), met(4, gave))
			checkDecide(t, met(4, gave), me(st[0]), foe(st[1]), 15, 8, abort(), met(5, gave))
		}
		checkDecide(t, met(3, 0), me(st[0]), foe(st[1]), 15, 8, yield(), met(4, 1))
	}
}

// P8.1: behind more than four tries the foe is aborted, whoever is the elder one, whether one gave way or not, and however long may be waited; Tries stays at 1,000,000.
func TestAbort(t *testing.T) {
	for _, c := range tries() {
		if c[1] <= 4 {
			continue
		}
		for _, st := range append(stamps(), elders()...) {
			for _, gave := range append(yields(), 0) {
				for _, wait := range []int{64, 8, 1, 0, -1, math.MinInt, math.MaxInt} {
					checkDecide(t, met(c[0], gave), me(st[0]), foe(st[1]), wait, wait, abort(), met(c[1], gave))
				}
			}
		}
	}
}

// P8.1: of tries that are below 1 behind it, it is waited like at the first one.
func TestTriesBelowOne(t *testing.T) {
	for _, c := range tries() {
		if c[1] >= 1 {
			continue
		}
		for _, st := range stamps() {
			for _, gave := range append(yields(), 0) {
				checkDecide(t, met(c[0], gave), me(st[0]), foe(st[1]), 3, 64, pause(17), met(c[1], gave))
				checkDecide(t, met(c[0], gave), me(st[0]), foe(st[1]), 3, 1, pause(1), met(c[1], gave))
			}
		}
	}
}

// P8.1: another foe is met for the first time, its pulse is the one that was seen, and not looked at yet; Yields stays. It is decided by that try.
func TestAnotherFoe(t *testing.T) {
	for _, by := range numbers() {
		for _, gave := range append(yields(), 0) {
			behind := choice.State{Foe: 8, Tries: 1, Yields: gave, Pulse: 21, Looks: 0}
			for _, st := range stamps() {
				checkDecide(t, met(by, gave), me(st[0]), choice.Side{Id: 8, Stamp: st[1], Pulse: 21}, 3, 8, pause(3), behind)
			}
			for _, st := range elders() {
				checkDecide(t, met(by, gave), me(st[0]), choice.Side{Id: 8, Stamp: st[1], Pulse: 21}, 3, 8, abort(), behind)
			}
		}
	}
	fresh := choice.State{Foe: 8, Tries: 1, Pulse: 21}
	checkDecide(t, choice.Fresh(), me(5), choice.Side{Id: 8, Stamp: 3, Pulse: 21}, 3, 8, pause(3), fresh)
	checkDecide(t, choice.Fresh(), me(2), choice.Side{Id: 8, Stamp: 3, Pulse: 21}, 3, 8, abort(), fresh)
}

// P8.1: what the same foe is met by tells its tries alone, and Yields where one gives way: the pulse that was seen stays, and so does how often.
func TestTheSameFoe(t *testing.T) {
	for _, n := range numbers() {
		same := choice.Side{Id: n, Stamp: 3, Pulse: 6}
		at := func(tries, yields int) choice.State {
			return choice.State{Foe: n, Tries: tries, Yields: yields, Pulse: 5, Looks: n}
		}
		checkDecide(t, at(1, n), me(5), same, 6, 8, pause(3), at(2, n))
		checkDecide(t, at(3, 0), me(5), same, 6, 8, yield(), at(4, 1))
		checkDecide(t, at(3, 1), me(5), same, 6, 8, abort(), at(4, 1))
		checkDecide(t, at(4, n), me(5), same, 6, 8, abort(), at(5, n))
		checkDecide(t, at(1, n), me(2), same, 6, 8, abort(), at(2, n))
	}
}

// P8.1: nothing else plays a part: not the numbers, priorities and pulses of both or whether they are waiting, not what is drawn, not how often one looked.
func TestNothingElse(t *testing.T) {
	for _, n := range numbers() {
		for _, waiting := range []bool{false, true} {
			younger := choice.Side{Id: n, Stamp: 5, Priority: n, Pulse: n, Waiting: waiting}
			elder := choice.Side{Id: n, Stamp: 2, Priority: n, Pulse: n, Waiting: waiting}
			same := choice.Side{Id: 7, Stamp: 3, Priority: -n, Pulse: n, Waiting: !waiting}
			at := func(tries, yields int) choice.State {
				return choice.State{Foe: 7, Tries: tries, Yields: yields, Pulse: n, Looks: n}
			}
			checkDecide(t, at(2, 0), younger, same, n, 64, pause(17), at(3, 0))
			checkDecide(t, at(3, 0), younger, same, n, 64, yield(), at(4, 1))
			checkDecide(t, at(3, 1), younger, same, n, 64, abort(), at(4, 1))
			checkDecide(t, at(4, 0), younger, same, n, 64, abort(), at(5, 0))
			checkDecide(t, at(3, 0), elder, same, n, 64, abort(), at(4, 0))
		}
	}
	itself := foe(9)
	checkDecide(t, met(1, 0), itself, itself, 2, 8, pause(3), met(2, 0))
	checkDecide(t, met(3, 0), itself, itself, 2, 8, yield(), met(4, 1))
}

// told is what the document says of stamps, of a state that has met the foe, and of a wait that isn't below 0.
func told(mine, foes int, s choice.State, wait int) (choice.Decision, choice.State) {
	gave := s
	gave.Yields = 1
	if foes > mine || s.Tries > 4 {
		return abort(), s
	}
	if s.Tries == 4 && s.Yields == 0 {
		return yield(), gave
	}
	if s.Tries == 4 {
		return abort(), s
	}
	return pause(max(1, min(wait, 1+(wait-wait%4)/4))), s
}

// P8.1: of any numbers there is the decision that the document says, the same each time; of a wait below 0 one that may be.
func TestAnyNumbers(t *testing.T) {
	for _, a := range numbers() {
		for _, b := range numbers() {
			for _, c := range numbers() {
				for _, gave := range []int{0, c} {
					s := choice.State{Foe: b, Tries: a, Yields: gave, Pulse: a, Looks: b}
					asks := choice.Side{Id: a, Stamp: b, Priority: c, Pulse: a, Waiting: a > b}
					other := choice.Side{Id: c, Stamp: a, Priority: b, Pulse: c, Waiting: b > c}
					d, behind := stamp.Manager{}.Decide(s, asks, other, b, c)
					want, then := told(b, a, choice.Met(s, other), c)
					if c < 0 && want.Kind == choice.Wait {
						want = choice.Decision{Kind: choice.Wait, Steps: max(d.Steps, 1)}
					}
					if d != want || behind != then {
						t.Errorf("Decide(%+v, %+v, %+v, %d, %d): %+v, %+v, not %+v, %+v", s, asks, other, b, c, d, behind, want, then)
					}
					checkDecide(t, s, asks, other, b, c, d, behind)
				}
			}
		}
	}
}

// P8.1: each decision may be, of any wait of 1 or more.
func TestDecisionsMayBe(t *testing.T) {
	for _, wait := range append(numbers(), 9, 16, 32) {
		for _, c := range tries() {
			for _, st := range append(stamps(), elders()...) {
				for gave := range 3 {
					d, _ := stamp.Manager{}.Decide(met(c[0], gave), me(st[0]), foe(st[1]), 3, wait)
					if !choice.Ok(d, max(wait, 1)) {
						t.Errorf("wait %d, tries %d: %+v", wait, c[0], d)
					}
				}
			}
		}
	}
}

// P8.2: one foe is met with three waits, then one gives way, and then it is aborted at each meeting from there on; who gave way already has it aborted at the fourth one.
func TestThreeWaits(t *testing.T) {
	for _, st := range stamps() {
		for _, wait := range []int{0, 1, 3, 4, 7, 8, 64} {
			for gave := range 3 {
				s := choice.State{Foe: -1, Yields: gave}
				for meeting := 1; meeting <= 12; meeting++ {
					d, behind := stamp.Manager{}.Decide(s, me(st[0]), foe(st[1]), meeting, wait)
					want := choice.Abort
					if meeting <= 3 {
						want = choice.Wait
					}
					if meeting == 4 && gave == 0 {
						want = choice.Yield
					}
					if s = behind; d.Kind != want || s.Tries != meeting {
						t.Errorf("stamps %v, wait %d, gave way %d times, meeting %d: %+v, %+v", st, wait, gave, meeting, d, s)
					}
				}
			}
		}
	}
}

// P8.2: who is the elder one neither waits nor gives way, at any meeting.
func TestTheElderDoesNotWait(t *testing.T) {
	for _, st := range elders() {
		s := choice.Fresh()
		for meeting := 1; meeting <= 12; meeting++ {
			d, behind := stamp.Manager{}.Decide(s, me(st[0]), foe(st[1]), meeting, 64)
			if s = behind; d != abort() || s != (choice.State{Foe: 7, Tries: meeting, Pulse: 9}) {
				t.Errorf("stamps %v, meeting %d: %+v, %+v", st, meeting, d, s)
			}
		}
	}
}

// P8.2: of two that meet each other, of different stamps, just one waits.
func TestTwoThatMeet(t *testing.T) {
	for a := range 12 {
		for b := range 12 {
			one := choice.Side{Id: 1, Stamp: a}
			other := choice.Side{Id: 2, Stamp: b}
			d, _ := stamp.Manager{}.Decide(choice.Fresh(), one, other, 0, 64)
			e, _ := stamp.Manager{}.Decide(choice.Fresh(), other, one, 0, 64)
			if a != b && (d == abort()) == (e == abort()) {
				t.Errorf("stamps %d and %d: %+v, %+v", a, b, d, e)
			}
		}
	}
}

// row is a short row of meetings, of two foes, and what was counted of it by the words of P8.2.
type row struct {
	together, last int
	gave           bool
}

// next is what must be decided about the next foe, by how often the same one was met together, and whether one gave way.
func (r *row) next(id int) choice.Decision {
	if r.together++; id != r.last {
		r.together, r.last = 1, id
	}
	if r.together <= 3 {
		return pause(3)
	}
	if r.together == 4 && !r.gave {
		r.gave = true
		return yield()
	}
	return abort()
}

// P8.2: of all short rows of foes each one is waited for three times together, and aborted then; one gives way once in the whole row, at the first one that is met for the fourth time.
func TestFoesInTurn(t *testing.T) {
	const foes, length = 2, 14
	for bits := range 1 << length {
		s, r, gave := choice.Fresh(), row{last: -1}, 0
		for i := range length {
			id := bits >> i % foes
			want := r.next(id)
			d, behind := stamp.Manager{}.Decide(s, me(5), choice.Side{Id: id, Stamp: 3}, 1, 8)
			if want == yield() {
				gave++
			}
			if s = behind; d != want || s != (choice.State{Foe: id, Tries: r.together, Yields: gave}) {
				t.Fatalf("row %b, place %d: %+v, %+v, not %+v", bits, i, d, s, want)
			}
		}
		if gave > 1 {
			t.Fatalf("row %b: gave way %d times", bits, gave)
		}
	}
}

// P8.2: one gives way once in a transaction, however many foes there are, each an elder one; it stands in the state, and so for the tries to come.
func TestGivesWayOnce(t *testing.T) {
	s, gave, waits := choice.Fresh(), 0, 0
	for id := range 20 {
		for range 6 {
			d, behind := stamp.Manager{}.Decide(s, me(50), choice.Side{Id: id, Stamp: id}, 1, 8)
			if s = behind; d == yield() {
				gave++
			} else if d == pause(3) {
				waits++
			}
		}
	}
	if gave != 1 || waits != 60 || s.Yields != 1 {
		t.Errorf("gave way %d times, waited %d times: %+v", gave, waits, s)
	}
}

// P8.2: from no state on, whose tries are 0 or more, is the same foe met with more than three waits, or given way to more than once.
func TestThreeWaitsFromAnyState(t *testing.T) {
	for _, by := range []int{0, 1, 2, 3, 4, 5, 6, 100, 999_999, 1_000_000, 1_000_001, math.MaxInt} {
		s, waits, gave := met(by, 0), 0, 0
		for range 20 {
			d, behind := stamp.Manager{}.Decide(s, me(5), foe(3), 5, 64)
			s = behind
			switch d.Kind {
			case choice.Wait:
				waits++
			case choice.Yield:
				gave++
			}
		}
		if want := max(0, 3-by); waits != want || gave != min(1, max(0, 4-by)) {
			t.Errorf("from %d tries on: %d waits, not %d, and gave way %d times", by, waits, want, gave)
		}
	}
}
