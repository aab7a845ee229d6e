package opaque_test

import (
	"math"
	"slices"
	"strconv"
	"strings"
	"testing"

	"quarrel/api"
	"quarrel/hist"
	"quarrel/opaque"
)

// numbers are ordinary ones, and the ends of what an int can be.
func numbers() []int {
	return []int{0, 1, 2, 3, 4, 5, 6, 7, 8, 255, 256, 4096, math.MaxInt32, 1 << 32, 1<<32 + 1, math.MaxInt - 1, math.MaxInt, -1, -2, -6, -255, math.MinInt32, -1 << 32, -1<<32 + 1, math.MinInt + 1, math.MinInt}
}

// number is one that must be.
func number(word string) int {
	n, err := strconv.Atoi(word)
	if err != nil {
		panic(word)
	}
	return n
}

// letters are the kinds of events.
func letters() map[byte]int {
	return map[byte]int{'b': api.EvBegin, 'r': api.EvRead, 'w': api.EvWrite, 'x': api.EvRelease, 'c': api.EvCommit, 'a': api.EvAbort, 'f': api.EvRefuse}
}

// event is one by its word: its kind's letter; a digit each for the thread, the transaction, the attempt and, if there is one, the object; behind = the value, behind ! the reason.
func event(word string) api.Event {
	kind, is := letters()[word[0]]
	at := strings.IndexAny(word, "=!")
	if at < 0 {
		at = len(word)
	}
	digits := word[1:at]
	if !is || len(digits) < 3 || len(digits) > 4 {
		panic(word)
	}
	e := api.Event{Kind: kind, Thread: int(digits[0] - '0'), Txn: int(digits[1] - '0'), Attempt: int(digits[2] - '0')}
	if len(digits) == 4 {
		e.Obj = int(digits[3] - '0')
	}
	if at < len(word) {
		if n := number(word[at+1:]); word[at] == '=' {
			e.Val = int64(n)
		} else {
			e.Reason = n
		}
	}
	return e
}

// trace is one by its words.
func trace(words string) []api.Event {
	var l []api.Event
	for _, w := range strings.Fields(words) {
		l = append(l, event(w))
	}
	return l
}

// attempt is a try of a plain kind: its own events, by their places.
type attempt struct {
	begin, end int // end is the trace's length, if it has none
	committed  bool
	l          []api.Event
}

// attempts are all of a trace that is right, each out of the events from its EvBegin on that are of the same attempt.
func attempts(l []api.Event) []attempt {
	var all []attempt
	for begin, b := range l {
		if b.Kind != api.EvBegin {
			continue
		}
		a := attempt{begin: begin, end: len(l)}
		for at, e := range l {
			if e.Kind == api.EvRefuse || e.Thread != b.Thread || e.Txn != b.Txn || e.Attempt != b.Attempt {
				continue
			}
			a.l = append(a.l, e)
			if e.Kind == api.EvCommit || e.Kind == api.EvAbort {
				a.end, a.committed = at, e.Kind == api.EvCommit
			}
		}
		all = append(all, a)
	}
	return all
}

// last is the value that a list's last event of a kind, of an object, tells.
func last(l []api.Event, kind, obj int) (int64, bool) {
	for _, e := range slices.Backward(l) {
		if e.Kind == kind && e.Obj == obj {
			return e.Val, true
		}
	}
	return 0, false
}

// fits says whether an attempt read what it should, by these values.
func (a attempt) fits(values []int64) bool {
	for i, e := range a.l {
		if e.Kind != api.EvRead {
			continue
		}
		if _, released := last(a.l[i:], api.EvRelease, e.Obj); released {
			continue
		}
		want, is := last(a.l[:i], api.EvWrite, e.Obj)
		if !is && e.Obj >= 0 && e.Obj < len(values) {
			want, is = values[e.Obj], true
		}
		if !is || e.Val != want {
			return false
		}
	}
	return true
}

// writes are the values behind an attempt.
func (a attempt) writes(values []int64) []int64 {
	behind := slices.Clone(values)
	for obj := range behind {
		if val, is := last(a.l, api.EvWrite, obj); is {
			behind[obj] = val
		}
	}
	return behind
}

// states are those of a trace, out of its attempts.
func states(first []int64, l []api.Event, all []attempt) [][]int64 {
	told := [][]int64{slices.Clone(first)}
	for at, e := range l {
		for _, a := range all {
			if e.Kind == api.EvCommit && a.end == at {
				told = append(told, a.writes(told[len(told)-1]))
			}
		}
	}
	return told
}

// commits is how many stand ahead of a place.
func commits(l []api.Event, place int) int {
	n := 0
	for _, e := range l[:place] {
		if e.Kind == api.EvCommit {
			n++
		}
	}
	return n
}

// seen is where each attempt is seen, -1 of one that isn't: each state that may be is asked.
func seen(first []int64, l []api.Event) []int {
	all := attempts(l)
	told := states(first, l, all)
	var ps []int
	for _, a := range all {
		p, end := commits(l, a.begin), commits(l, a.end)
		if a.committed {
			p = end
		}
		for p <= end && !a.fits(told[p]) {
			p++
		}
		if p > end {
			p = -1
		}
		ps = append(ps, p)
	}
	return ps
}

// order is the order of attempts that are seen there: time by time all attempts are asked whether it is theirs.
func order(l []api.Event, ps []int) []int {
	all := attempts(l)
	var told []int
	for time := range 2 * (len(l) + 1) {
		for no, a := range all {
			if own := 2 * ps[no]; time == own && !a.committed || time == own+1 && a.committed {
				told = append(told, no)
			}
		}
	}
	return told
}

// asked is what a trace is asked for, and what it tells: Check's place, Seen's numbers, Order's, and the three errors.
type asked struct {
	place               int
	seen, order         []int
	check, inSeen, turn api.Errno
}

// ask asks a trace, and holds what was handed in against what it was.
func ask(t *testing.T, first []int64, l []api.Event) asked {
	t.Helper()
	ahead, was := slices.Clone(first), slices.Clone(l)
	var a asked
	a.place, a.check = opaque.Check(first, l)
	a.seen, a.inSeen = opaque.Seen(first, l)
	a.order, a.turn = opaque.Order(first, l)
	if !slices.Equal(first, ahead) || !slices.Equal(l, was) {
		t.Fatalf("%v, %v became %v, %v", ahead, was, first, l)
	}
	return a
}

// refused asks a trace for a place and an error, and for nothing else.
func refused(t *testing.T, first []int64, l []api.Event, place int, e api.Errno) {
	t.Helper()
	a := ask(t, first, l)
	if a.place != place || a.check != e {
		t.Fatalf("Check of %v, %v: %d, %d, not %d, %d", first, l, a.place, a.check, place, e)
	}
	if len(a.seen) != 0 || a.inSeen != e {
		t.Fatalf("Seen of %v, %v: %v, %d, not none, %d", first, l, a.seen, a.inSeen, e)
	}
	if len(a.order) != 0 || a.turn != e {
		t.Fatalf("Order of %v, %v: %v, %d, not none, %d", first, l, a.order, a.turn, e)
	}
}

// told asks a trace for being opaque, with these numbers, and this order.
func told(t *testing.T, first []int64, l []api.Event, ps, turns []int) {
	t.Helper()
	a := ask(t, first, l)
	if a.place != -1 || a.check != api.OK {
		t.Fatalf("Check of %v, %v: %d, %d", first, l, a.place, a.check)
	}
	if !slices.Equal(a.seen, ps) || a.inSeen != api.OK {
		t.Fatalf("Seen of %v, %v: %v, %d, not %v", first, l, a.seen, a.inSeen, ps)
	}
	if !slices.Equal(a.order, turns) || a.turn != api.OK {
		t.Fatalf("Order of %v, %v: %v, %d, not %v", first, l, a.order, a.turn, turns)
	}
	respects(t, l, a.order)
	oneByOne(t, first, l, a.order)
}

// respects asks of an order that each try is there once, and that one that ended ahead of another one's beginning stands ahead of it.
func respects(t *testing.T, l []api.Event, turns []int) {
	t.Helper()
	all := attempts(l)
	if sorted := slices.Sorted(slices.Values(turns)); len(sorted) != len(all) || len(slices.Compact(sorted)) != len(all) || len(all) > 0 && (sorted[0] != 0 || sorted[len(all)-1] != len(all)-1) {
		t.Fatalf("%v: the order %v of %d tries", l, turns, len(all))
	}
	for i, behind := range turns {
		for _, ahead := range turns[:i] {
			if all[behind].end < all[ahead].begin {
				t.Fatalf("%v: the order %v has %d ahead of %d, which had ended", l, turns, ahead, behind)
			}
		}
	}
}

// oneByOne does the tries in an order: each must fit what is there.
func oneByOne(t *testing.T, first []int64, l []api.Event, turns []int) {
	t.Helper()
	all, values := attempts(l), first
	for _, no := range turns {
		if !all[no].fits(values) {
			t.Fatalf("%v, %v: in the order %v the try %d doesn't fit %v", first, l, turns, no, values)
		}
		if all[no].committed {
			values = all[no].writes(values)
		}
	}
}

// check holds what is told of a trace against what the plain ones tell, and says whether it is opaque.
func check(t *testing.T, first []int64, l []api.Event) bool {
	t.Helper()
	if !hist.Right(l) {
		refused(t, first, l, 0, api.ErrForm)
		return false
	}
	ps := seen(first, l)
	if no := slices.Index(ps, -1); no >= 0 {
		refused(t, first, l, no, api.ErrState)
		return false
	}
	told(t, first, l, ps, order(l, ps))
	return true
}

// beginnings checks each beginning of a trace, and tells how many are opaque.
func beginnings(t *testing.T, first []int64, l []api.Event) int {
	t.Helper()
	n := 0
	for end := range len(l) + 1 {
		if check(t, first, l[:end]) {
			n++
		}
	}
	return n
}

// wrongs are traces that aren't right, each of another fault; all else in them could be seen, by first values 5 and 6.
func wrongs() []string {
	return []string{
		// The Attempt is too small, or too great.
		"b000", "b002", "b001 a001!1 b001", "b001 a001!1 b003", "b001 c001 b001", "b001 a001!1 b012", "b001 a001!1 b102", "b001 f100!5 b102",
		// The thread's last try has not ended.
		"b001 b001", "b001 b002", "b001 b011", "b001 f000!5", "b001 b101 c101 b002", "b001 c001 b011 f000!4",
		// The thread began nothing.
		"r0010=5", "w0010=7", "x0010", "c001", "a001!1", "b001 r1010=5", "b001 w1010=7", "b001 x1010", "b001 c101", "b001 a101!1", "f000!5 c000",
		// Its last try has ended.
		"b001 c001 r0010=5", "b001 c001 w0010=7", "b001 c001 x0010", "b001 c001 c001", "b001 c001 a001!1", "b001 a001!1 r0010=5", "b001 a001!1 w0010=7", "b001 a001!1 x0010", "b001 a001!1 c001", "b001 a001!1 a001!1",
		// Another Txn.
		"b001 r0110=5", "b001 w0110=7", "b001 x0110", "b001 c011", "b001 a011!1", "b001 c001 b011 r0010=5",
		// Another Attempt.
		"b001 r0020=5", "b001 w0020=7", "b001 x0020", "b001 c002", "b001 a002!1", "b001 a001!1 b002 r0010=5", "b001 a001!1 b002 c001", "b001 r0000=5",
	}
}
