package choice_test

import (
	"math"
	"testing"

	"quarrel/choice"
)

// top is where Tries and Looks stay.
const top = 1_000_000

// numbers are ordinary ones, the edges of a count among them, and the ends of what an int can be.
func numbers() []int {
	return []int{
		0, 1, 2, 3, 7, 64, 999_998, 999_999, 1_000_000, 1_000_001, 2_000_000, math.MaxInt32, math.MaxInt - 1, math.MaxInt,
		-1, -2, -7, -1_000_000, math.MinInt32, math.MinInt + 1, math.MinInt,
	}
}

// fewer are some of the numbers, for what is asked of all of several ones together.
func fewer() []int {
	return []int{0, 1, 7, -1, 999_999, 1_000_000, math.MaxInt, math.MinInt}
}

// counts are numbers of times, and what each is behind one more.
func counts() [][2]int {
	return [][2]int{
		{0, 1}, {1, 2}, {2, 3}, {63, 64}, {64, 65}, {255, 256},
		{999_997, 999_998}, {999_998, 999_999}, {999_999, top},
		{1_000_000, top}, {1_000_001, top}, {1_000_002, top}, {2_000_000, top},
		{math.MaxInt32, top}, {math.MaxInt - 1, top}, {math.MaxInt, top},
		{-1, 0}, {-2, -1}, {-1_000_000, -999_999}, {-1_000_001, -1_000_000},
		{math.MinInt32, math.MinInt32 + 1}, {math.MinInt + 1, math.MinInt + 2}, {math.MinInt, math.MinInt + 1},
	}
}

// checkState asks whether a state is what it must be.
func checkState(t *testing.T, what string, got, want choice.State) {
	t.Helper()
	if got != want {
		t.Errorf("%s: %+v, not %+v", what, got, want)
	}
}

// checkLook looks, and asks for what it must answer.
func checkLook(t *testing.T, s choice.State, pulse, wait int, want choice.State, stands bool) {
	t.Helper()
	if got, told := choice.Look(s, pulse, wait); got != want || told != stands {
		t.Errorf("Look(%+v, %d, %d): %+v, %v, not %+v, %v", s, pulse, wait, got, told, want, stands)
	}
}

// The kinds have the numbers of the document.
func TestKinds(t *testing.T) {
	if choice.Abort != 1 || choice.Wait != 2 || choice.Yield != 3 {
		t.Errorf("Abort %d, Wait %d, Yield %d", choice.Abort, choice.Wait, choice.Yield)
	}
}

// sitting is a manager that waits always, of the means of this package alone.
type sitting struct{}

func (sitting) Decide(s choice.State, me, foe choice.Side, draw, wait int) (choice.Decision, choice.State) {
	return choice.For(draw, wait), choice.Met(s, foe)
}

func (sitting) Marks() bool { return true }

// Whatever has the two methods stands behind the interface.
func TestManager(t *testing.T) {
	var m choice.Manager = sitting{}
	d, s := m.Decide(choice.Fresh(), choice.Side{Id: 1}, choice.Side{Id: 2, Pulse: 3}, 9, 4)
	if d != (choice.Decision{Kind: choice.Wait, Steps: 4}) || s != (choice.State{Foe: 2, Tries: 1, Pulse: 3}) || !m.Marks() {
		t.Errorf("%+v, %+v", d, s)
	}
}

// P5.1: the state at the beginning has met nobody, and is the same each time.
func TestFresh(t *testing.T) {
	for range 2 {
		s := choice.Fresh()
		checkState(t, "Fresh", s, choice.State{Foe: -1, Tries: 0, Yields: 0, Pulse: 0, Looks: 0})
		s.Foe, s.Tries, s.Yields, s.Pulse, s.Looks = 1, 2, 3, 4, 5
	}
}

// The chapter's example.
func TestExample(t *testing.T) {
	s := choice.Fresh()
	for i, q := range [][2]int{{7, 1}, {7, 2}, {8, 1}} {
		s = choice.Met(s, choice.Side{Id: q[0]})
		if s.Foe != q[0] || s.Tries != q[1] {
			t.Errorf("%d: met by %d: %+v", i, q[0], s)
		}
	}
}

// P5.1: the same foe again is one try more, at most 1,000,000; all else stays, the pulse that was seen too.
func TestMetTheSameFoe(t *testing.T) {
	for _, id := range numbers() {
		for _, c := range counts() {
			for _, n := range fewer() {
				s := choice.State{Foe: id, Tries: c[0], Yields: n, Pulse: 5, Looks: 9}
				want := s
				want.Tries = c[1]
				checkState(t, "the same foe", choice.Met(s, choice.Side{Id: id, Pulse: n}), want)
				s = choice.State{Foe: id, Tries: c[0], Yields: 2, Pulse: n, Looks: n}
				want = s
				want.Tries = c[1]
				checkState(t, "the same foe, another pulse", choice.Met(s, choice.Side{Id: id, Pulse: 6}), want)
			}
		}
	}
}

// P5.1: another foe is the first try of it, its pulse the one that was seen, and not looked at yet; Yields stays.
func TestMetAnotherFoe(t *testing.T) {
	for _, has := range numbers() {
		for _, id := range numbers() {
			if has == id {
				continue
			}
			for _, n := range fewer() {
				for _, pulse := range fewer() {
					s := choice.State{Foe: has, Tries: n, Yields: n, Pulse: 3, Looks: n}
					want := choice.State{Foe: id, Tries: 1, Yields: n, Pulse: pulse, Looks: 0}
					checkState(t, "another foe", choice.Met(s, choice.Side{Id: id, Pulse: pulse}), want)
				}
			}
		}
	}
}

// P5.1: just the foe's Id next to the state's tells whether it is another one: no other number of a state is held against the Id, not even where they are alike.
func TestMetIsByTheFoe(t *testing.T) {
	all := choice.State{Foe: 4, Tries: 7, Yields: 7, Pulse: 7, Looks: 7}
	checkState(t, "by another one", choice.Met(all, choice.Side{Id: 7, Pulse: 8}), choice.State{Foe: 7, Tries: 1, Yields: 7, Pulse: 8, Looks: 0})
	checkState(t, "by the same", choice.Met(all, choice.Side{Id: 4, Pulse: 8}), choice.State{Foe: 4, Tries: 8, Yields: 7, Pulse: 7, Looks: 7})
	checkState(t, "fresh, by one of the state's number for nobody", choice.Met(choice.Fresh(), choice.Side{Id: -1, Pulse: 8}), choice.State{Foe: -1, Tries: 1})
	checkState(t, "fresh, by 0", choice.Met(choice.Fresh(), choice.Side{Id: 0, Pulse: 8}), choice.State{Foe: 0, Tries: 1, Pulse: 8})
	checkState(t, "a zero state, by 0", choice.Met(choice.State{}, choice.Side{Id: 0, Pulse: 8}), choice.State{Tries: 1})
}

// P5.1: a foe's stamp, priority and whether it is waiting play no part.
func TestMetSide(t *testing.T) {
	s := choice.State{Foe: 4, Tries: 2, Yields: 1, Pulse: 6, Looks: 3}
	for _, n := range numbers() {
		for _, waiting := range []bool{false, true} {
			same := choice.Side{Id: 4, Stamp: n, Priority: n, Pulse: 9, Waiting: waiting}
			checkState(t, "the same foe", choice.Met(s, same), choice.State{Foe: 4, Tries: 3, Yields: 1, Pulse: 6, Looks: 3})
			other := choice.Side{Id: 5, Stamp: n, Priority: n, Pulse: 9, Waiting: waiting}
			checkState(t, "another foe", choice.Met(s, other), choice.State{Foe: 5, Tries: 1, Yields: 1, Pulse: 9, Looks: 0})
		}
	}
}

// P5.1: a foe that is met for good is counted one by one up to 1,000,000, and stays there; the next one is counted from 1 on.
func TestMetForGood(t *testing.T) {
	s := choice.Fresh()
	for i := range top + 5 {
		s = choice.Met(s, choice.Side{Id: 3, Pulse: 8})
		if want := (choice.State{Foe: 3, Tries: min(i+1, top), Pulse: 8}); s != want {
			t.Fatalf("met %d times: %+v", i+1, s)
		}
	}
	checkState(t, "another one behind it", choice.Met(s, choice.Side{Id: 2, Pulse: 1}), choice.State{Foe: 2, Tries: 1, Pulse: 1})
}

// P5.1: of all short rows of foes the tries are how many of one foe stand together at the end.
func TestMetInTurn(t *testing.T) {
	const foes, length = 3, 6
	all := 1
	for range length {
		all *= foes
	}
	for row := range all {
		s := choice.Fresh()
		s.Yields = 2
		together, last, seen := 0, -1, 0
		for rest, i := row, 0; i < length; rest, i = rest/foes, i+1 {
			id, pulse := rest%foes, 10+i
			if id == last {
				together++
			} else {
				together, last, seen = 1, id, pulse
			}
			s = choice.Met(s, choice.Side{Id: id, Pulse: pulse})
			if want := (choice.State{Foe: id, Tries: together, Yields: 2, Pulse: seen}); s != want {
				t.Fatalf("row %d, place %d: %+v, not %+v", row, i, s, want)
			}
		}
	}
}

// P5.2: the same pulse again is one look more, at most 1,000,000, and stands, if that is above wait; all else stays.
func TestLookAtTheSamePulse(t *testing.T) {
	for _, pulse := range numbers() {
		for _, c := range counts() {
			s := choice.State{Foe: 4, Tries: 2, Yields: 3, Pulse: pulse, Looks: c[0]}
			want := s
			want.Looks = c[1]
			for _, wait := range append(numbers(), c[1]-1, c[1], c[1]+1) {
				checkLook(t, s, pulse, wait, want, c[1] > wait)
			}
		}
	}
}

// P5.2: another pulse is the one that is seen then, and not looked at again yet: it stands of a wait below 0 alone.
func TestLookAtAnotherPulse(t *testing.T) {
	for _, has := range numbers() {
		for _, pulse := range numbers() {
			if has == pulse {
				continue
			}
			for _, looks := range fewer() {
				s := choice.State{Foe: 4, Tries: 2, Yields: 3, Pulse: has, Looks: looks}
				want := choice.State{Foe: 4, Tries: 2, Yields: 3, Pulse: pulse, Looks: 0}
				for _, wait := range []int{0, 1, 2, 64, top, math.MaxInt} {
					checkLook(t, s, pulse, wait, want, false)
				}
				for _, wait := range []int{-1, -2, math.MinInt} {
					checkLook(t, s, pulse, wait, want, true)
				}
			}
		}
	}
}

// P5.2: looks just at, below and above wait, written out.
func TestLookAtTheEdges(t *testing.T) {
	for _, q := range []struct {
		looks, wait int
		behind      int
		stands      bool
	}{
		{0, 0, 1, true}, {0, 1, 1, false}, {0, 2, 1, false}, {0, -1, 1, true},
		{1, 1, 2, true}, {1, 2, 2, false}, {1, 3, 2, false},
		{62, 64, 63, false}, {63, 64, 64, false}, {64, 64, 65, true}, {65, 64, 66, true},
		{-1, 0, 0, false}, {-1, -1, 0, true}, {-2, -1, -1, false}, {-2, -2, -1, true},
		{999_998, 999_999, 999_999, false}, {999_998, 999_998, 999_999, true},
		{999_999, 999_999, top, true}, {999_999, top, top, false},
		{1_000_000, 999_999, top, true}, {1_000_000, top, top, false},
		{1_000_001, 999_999, top, true}, {1_000_001, top, top, false}, {1_000_001, 1_000_001, top, false},
		{math.MaxInt, 999_999, top, true}, {math.MaxInt, top, top, false}, {math.MaxInt, math.MaxInt, top, false},
		{math.MinInt, math.MinInt, math.MinInt + 1, true}, {math.MinInt, math.MinInt + 1, math.MinInt + 1, false},
	} {
		s := choice.State{Foe: 1, Pulse: 5, Looks: q.looks}
		checkLook(t, s, 5, q.wait, choice.State{Foe: 1, Pulse: 5, Looks: q.behind}, q.stands)
	}
}

// P5.2: no other number of a state is held against the pulse, not even where they are alike.
func TestLookIsByThePulse(t *testing.T) {
	s := choice.State{Foe: 9, Tries: 9, Yields: 9, Pulse: 5, Looks: 9}
	checkLook(t, s, 9, 3, choice.State{Foe: 9, Tries: 9, Yields: 9, Pulse: 9, Looks: 0}, false)
	checkLook(t, s, 5, 3, choice.State{Foe: 9, Tries: 9, Yields: 9, Pulse: 5, Looks: 10}, true)
}

// P5.2: a pulse that is looked at for good is counted one by one up to 1,000,000, and stays there.
func TestLookForGood(t *testing.T) {
	s := choice.State{Foe: 3, Tries: 1, Pulse: 8}
	for i := range top + 5 {
		next, stands := choice.Look(s, 8, top-1)
		s = next
		if want := (choice.State{Foe: 3, Tries: 1, Pulse: 8, Looks: min(i+1, top)}); s != want || stands != (i+1 >= top) {
			t.Fatalf("looked %d times: %+v, %v", i+1, s, stands)
		}
	}
	checkLook(t, s, 9, top-1, choice.State{Foe: 3, Tries: 1, Pulse: 9}, false)
}

// P5.3: the edges of a wait, written out: the steps that are asked for, but at least 1, and at most wait, which counts as 1 at least.
func TestForAtTheEdges(t *testing.T) {
	for _, q := range []struct{ steps, wait, want int }{
		{4, 64, 4}, {1, 64, 1}, {2, 64, 2}, {63, 64, 63}, {64, 64, 64}, {65, 64, 64}, {66, 64, 64}, {1000, 64, 64},
		{0, 64, 1}, {-1, 64, 1}, {-64, 64, 1}, {math.MinInt, 64, 1}, {math.MaxInt, 64, 64},
		{0, 1, 1}, {1, 1, 1}, {2, 1, 1}, {-1, 1, 1}, {math.MinInt, 1, 1}, {math.MaxInt, 1, 1},
		{0, 0, 1}, {1, 0, 1}, {2, 0, 1}, {-1, 0, 1}, {math.MinInt, 0, 1}, {math.MaxInt, 0, 1},
		{0, -1, 1}, {1, -1, 1}, {2, -1, 1}, {-1, -1, 1}, {-5, -3, 1}, {-3, -5, 1}, {64, -64, 1},
		{math.MinInt, math.MinInt, 1}, {math.MaxInt, math.MinInt, 1}, {math.MinInt, math.MaxInt, 1},
		{math.MaxInt, math.MaxInt, math.MaxInt}, {math.MaxInt - 1, math.MaxInt, math.MaxInt - 1}, {math.MaxInt, math.MaxInt - 1, math.MaxInt - 1},
	} {
		if d := choice.For(q.steps, q.wait); d != (choice.Decision{Kind: 2, Steps: q.want}) {
			t.Errorf("For(%d, %d): %+v, not %d steps", q.steps, q.wait, d, q.want)
		}
	}
}

// P5.3: a wait is of what is asked for, where that may be; else of the nearest that may be, and of 1 where none may be.
func TestFor(t *testing.T) {
	for steps := -70; steps <= 140; steps++ {
		for wait := -70; wait <= 70; wait++ {
			want := 1
			for n := 1; n <= wait && n <= steps; n++ {
				want = n
			}
			d := choice.For(steps, wait)
			if d != (choice.Decision{Kind: choice.Wait, Steps: want}) {
				t.Errorf("For(%d, %d): %+v, not %d steps", steps, wait, d, want)
			}
			if ok := choice.Ok(d, wait); ok != (wait >= 1) {
				t.Errorf("Ok(For(%d, %d), %d): %v", steps, wait, wait, ok)
			}
		}
	}
}

// P5.3: the edges of what may be, written out.
func TestOkAtTheEdges(t *testing.T) {
	for _, q := range []struct {
		kind, steps, wait int
		want              bool
	}{
		{1, 0, 64, true}, {1, 1, 64, false}, {1, -1, 64, false}, {1, 64, 64, false}, {1, 0, 0, true}, {1, 0, -1, true}, {1, 1, 1, false},
		{3, 0, 64, true}, {3, 1, 64, false}, {3, -1, 64, false}, {3, 64, 64, false}, {3, 0, 0, true}, {3, 0, -1, true}, {3, 1, 1, false},
		{2, 0, 64, false}, {2, 1, 64, true}, {2, 2, 64, true}, {2, 63, 64, true}, {2, 64, 64, true}, {2, 65, 64, false}, {2, -1, 64, false},
		{2, 0, 1, false}, {2, 1, 1, true}, {2, 2, 1, false}, {2, -1, 1, false},
		{2, 0, 0, false}, {2, 1, 0, false}, {2, -1, 0, false},
		{2, 0, -1, false}, {2, 1, -1, false}, {2, -1, -1, false}, {2, -2, -1, false},
		{2, math.MaxInt, math.MaxInt, true}, {2, math.MaxInt, math.MaxInt - 1, false}, {2, 1, math.MaxInt, true}, {2, 0, math.MaxInt, false},
		{2, math.MinInt, math.MaxInt, false}, {2, math.MinInt, math.MinInt, false}, {2, 1, math.MinInt, false},
		{1, 0, math.MinInt, true}, {3, 0, math.MaxInt, true}, {1, math.MaxInt, math.MaxInt, false}, {3, math.MinInt, math.MinInt, false},
		{0, 0, 64, false}, {0, 1, 64, false}, {4, 0, 64, false}, {4, 1, 64, false}, {-1, 0, 64, false}, {-2, 1, 64, false},
		{5, 0, 64, false}, {257, 0, 64, false}, {258, 1, 64, false},
		{math.MaxInt, 0, 64, false}, {math.MaxInt, 1, 64, false}, {math.MinInt, 0, 64, false}, {math.MinInt, 1, 64, false},
	} {
		if got := choice.Ok(choice.Decision{Kind: q.kind, Steps: q.steps}, q.wait); got != q.want {
			t.Errorf("Ok({%d %d}, %d): %v", q.kind, q.steps, q.wait, got)
		}
	}
}

// P5.3: of all small decisions just these may be: to abort or to give way without steps, and to wait from 1 to wait of them.
func TestOk(t *testing.T) {
	for wait := -3; wait <= 66; wait++ {
		may := map[choice.Decision]bool{{Kind: choice.Abort}: true, {Kind: choice.Yield}: true}
		for n := 1; n <= wait; n++ {
			may[choice.Decision{Kind: choice.Wait, Steps: n}] = true
		}
		for kind := -3; kind <= 8; kind++ {
			for steps := -70; steps <= 70; steps++ {
				d := choice.Decision{Kind: kind, Steps: steps}
				if got := choice.Ok(d, wait); got != may[d] {
					t.Errorf("Ok(%+v, %d): %v", d, wait, got)
				}
			}
		}
	}
}

// P5.3: of the ends of what a number can be, no decision but those of the three kinds may be.
func TestOkOfAnyNumbers(t *testing.T) {
	for _, kind := range numbers() {
		if kind >= 1 && kind <= 3 {
			continue
		}
		for _, steps := range numbers() {
			for _, wait := range numbers() {
				if choice.Ok(choice.Decision{Kind: kind, Steps: steps}, wait) {
					t.Errorf("Ok({%d %d}, %d)", kind, steps, wait)
				}
			}
		}
	}
}

// first sees a pulse for the first time, and answers the state behind that: one that a foe was met in, or looked at.
func first(t *testing.T, met bool, wait int) choice.State {
	t.Helper()
	if met {
		return choice.Met(choice.Fresh(), choice.Side{Id: 1, Pulse: 5})
	}
	s, stands := choice.Look(choice.Fresh(), 5, wait)
	if stands {
		t.Fatalf("wait %d: told at the first look", wait)
	}
	return s
}

// P5.4: who sees one pulse again and again isn't told so at the looks up to number wait behind the first, and is at all from wait + 1 on.
func TestToldBehindWaitLooks(t *testing.T) {
	for wait := range 71 {
		for _, met := range []bool{false, true} {
			s := first(t, met, wait)
			for look := 1; look <= wait+5; look++ {
				next, stands := choice.Look(s, 5, wait)
				if s = next; stands != (look >= wait+1) {
					t.Errorf("wait %d, met %v: look %d behind the first: %v", wait, met, look, stands)
				}
			}
		}
	}
}

// P5.4: a pulse that goes on ahead of look number wait + 1 is never told to stand, and counts anew each time it goes on.
func TestNotToldOfWhoGoesOn(t *testing.T) {
	for wait := range 20 {
		s := choice.Met(choice.Fresh(), choice.Side{Id: 1, Pulse: 0})
		for pulse := range 10 {
			for look := range wait + 1 {
				next, stands := choice.Look(s, pulse+1, wait)
				if s = next; stands {
					t.Errorf("wait %d, pulse %d: told at the look %d behind the first", wait, pulse, look)
				}
			}
		}
		if _, stands := choice.Look(s, 10, wait); !stands {
			t.Errorf("wait %d: not told of the one that stands at the end", wait)
		}
	}
}

// P5.4: of all short rows of pulses one is told just at those places behind which the same pulse stands more than wait times.
func TestToldInTurn(t *testing.T) {
	const pulses, length = 2, 10
	for wait := range 5 {
		for row := range 1 << length {
			s := choice.Fresh()
			s.Pulse = -7
			again, last := 0, -7
			for i := range length {
				pulse := row >> i % pulses
				if pulse == last {
					again++
				} else {
					again, last = 0, pulse
				}
				next, stands := choice.Look(s, pulse, wait)
				if s = next; stands != (again > wait) || s.Looks != again || s.Pulse != pulse {
					t.Fatalf("wait %d, row %b, place %d: %+v, %v, %d times again", wait, row, i, s, stands, again)
				}
			}
		}
	}
}

// P5.4: a foe that is met again and again is told of by its looks alone, whether it is met between them or not; another foe is counted anew.
func TestMetBetweenLooks(t *testing.T) {
	const wait = 3
	foe := choice.Side{Id: 1, Pulse: 5}
	s := choice.Fresh()
	for look := 1; look <= wait+1; look++ {
		s = choice.Met(s, foe)
		next, stands := choice.Look(s, foe.Pulse, wait)
		if s = next; stands != (look == wait+1) || s.Tries != look || s.Looks != look {
			t.Errorf("look %d: %+v, %v", look, s, stands)
		}
	}
	other := choice.Side{Id: 2, Pulse: 5}
	for look := 1; look <= wait+1; look++ {
		s = choice.Met(s, other)
		next, stands := choice.Look(s, other.Pulse, wait)
		if s = next; stands != (look == wait+1) {
			t.Errorf("another foe of that pulse, look %d: %+v, %v", look, s, stands)
		}
	}
}

// Any numbers in a state and a side are taken, and the answers are the same each time.
func TestAnyNumbers(t *testing.T) {
	for _, a := range fewer() {
		for _, b := range fewer() {
			for _, c := range fewer() {
				s := choice.State{Foe: a, Tries: b, Yields: c, Pulse: b, Looks: a}
				side := choice.Side{Id: b, Stamp: c, Priority: a, Pulse: c, Waiting: a > b}
				checkState(t, "Met again", choice.Met(s, side), choice.Met(s, side))
				want, stands := choice.Look(s, b, c)
				checkLook(t, s, b, c, want, stands)
				if d := choice.For(a, b); d != choice.For(a, b) || d.Steps < 1 || d.Steps > 1 && d.Steps > b {
					t.Errorf("For(%d, %d): %+v", a, b, d)
				}
				if d := (choice.Decision{Kind: a, Steps: b}); choice.Ok(d, c) != choice.Ok(d, c) {
					t.Errorf("Ok(%+v, %d) isn't the same each time", d, c)
				}
			}
		}
	}
}
