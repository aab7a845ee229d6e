package hist_test

import (
	"math"
	"reflect"
	"slices"
	"strconv"
	"strings"
	"testing"

	"quarrel/api"
	"quarrel/hist"
)

// numbers are ordinary ones, and the ends of what an int can be.
func numbers() []int {
	return []int{0, 1, 2, 3, 4, 5, 6, 7, 8, 255, 256, 4096, math.MaxInt32, 1 << 32, 1<<32 + 1, math.MaxInt - 1, math.MaxInt, -1, -2, -6, -255, math.MinInt32, -1 << 32, -1<<32 + 1, math.MinInt + 1, math.MinInt}
}

// letters are the kinds of events.
func letters() map[byte]int {
	return map[byte]int{'b': api.EvBegin, 'r': api.EvRead, 'w': api.EvWrite, 'x': api.EvRelease, 'c': api.EvCommit, 'a': api.EvAbort, 'f': api.EvRefuse}
}

// event is one by its word: its kind's letter; a digit each for the thread, the transaction, the attempt and, if there is one, the object; behind = the value, behind ! the reason.
func event(word string) api.Event {
	kind, is := letters()[word[0]]
	at := strings.IndexAny(word, "=!")
	if at < 0 {
		at = len(word)
	}
	digits := word[1:at]
	if !is || len(digits) < 3 || len(digits) > 4 {
		panic(word)
	}
	e := api.Event{Kind: kind, Thread: int(digits[0] - '0'), Txn: int(digits[1] - '0'), Attempt: int(digits[2] - '0')}
	if len(digits) == 4 {
		e.Obj = int(digits[3] - '0')
	}
	if at < len(word) {
		n, err := strconv.Atoi(word[at+1:])
		if err != nil {
			panic(word)
		}
		if word[at] == '=' {
			e.Val = int64(n)
		} else {
			e.Reason = n
		}
	}
	return e
}

// trace is one by its words.
func trace(words string) []api.Event {
	var l []api.Event
	for _, w := range strings.Fields(words) {
		l = append(l, event(w))
	}
	return l
}

// ended says whether the last try of a thread, which began at a place, has an end ahead of another place.
func ended(l []api.Event, thread, begin, place int) bool {
	for _, e := range l[begin:place] {
		if e.Thread == thread && (e.Kind == api.EvCommit || e.Kind == api.EvAbort) {
			return true
		}
	}
	return false
}

// last is the place of the last EvBegin ahead of a place that one asks for; -1, if there is none.
func last(l []api.Event, place int, asked func(api.Event) bool) int {
	for at := place - 1; at >= 0; at-- {
		if l[at].Kind == api.EvBegin && asked(l[at]) {
			return at
		}
	}
	return -1
}

// fits says, sentence by sentence, whether the event at a place fits what stands ahead of it.
func fits(l []api.Event, place int) bool {
	e := l[place]
	of := last(l, place, func(o api.Event) bool { return o.Thread == e.Thread })
	open := of >= 0 && !ended(l, e.Thread, of, place)
	switch e.Kind {
	case api.EvBegin:
		want := 1
		if at := last(l, place, func(o api.Event) bool { return o.Thread == e.Thread && o.Txn == e.Txn }); at >= 0 {
			want = l[at].Attempt + 1
		}
		return e.Attempt == want && !open
	case api.EvRefuse:
		return !open
	case api.EvRead, api.EvWrite, api.EvRelease, api.EvCommit, api.EvAbort:
		return open && l[of].Txn == e.Txn && l[of].Attempt == e.Attempt
	}
	return false
}

// right is a plain Right: each event is asked for by all that stand ahead of it.
func right(l []api.Event) bool {
	for place := range l {
		if !fits(l, place) {
			return false
		}
	}
	return true
}

// same says whether two events are of one attempt.
func same(a, b api.Event) bool {
	return a.Thread == b.Thread && a.Txn == b.Txn && a.Attempt == b.Attempt
}

// has says whether a list has an event of a kind, of an attempt and an object.
func has(l []api.Event, kind int, of api.Event) bool {
	return slices.ContainsFunc(l, func(e api.Event) bool { return e.Kind == kind && same(e, of) && e.Obj == of.Obj })
}

// try is the plain one of the EvBegin at a place, of a trace that is right.
func try(l []api.Event, begin int) hist.Try {
	b := l[begin]
	t := hist.Try{Thread: b.Thread, Txn: b.Txn, Attempt: b.Attempt, Stamp: int(b.Val), Begin: begin, End: -1}
	for at, e := range l {
		if !same(b, e) {
			continue
		}
		switch e.Kind {
		case api.EvRead:
			t.Accesses = append(t.Accesses, hist.Access{Place: at, Kind: e.Kind, Obj: e.Obj, Val: e.Val, Own: has(l[:at], api.EvWrite, e), Released: has(l[at:], api.EvRelease, e)})
		case api.EvWrite:
			t.Accesses = append(t.Accesses, hist.Access{Place: at, Kind: e.Kind, Obj: e.Obj, Val: e.Val})
		case api.EvCommit:
			t.End, t.Committed = at, true
		case api.EvAbort:
			t.End, t.Reason = at, e.Reason
		}
	}
	return t
}

// tries are plain Tries.
func tries(l []api.Event) []hist.Try {
	var told []hist.Try
	for at, e := range l {
		if e.Kind == api.EvBegin && right(l) {
			told = append(told, try(l, at))
		}
	}
	return told
}

// commits are plain Commits, out of plain Tries.
func commits(l []api.Event, all []hist.Try) []hist.Try {
	var told []hist.Try
	for at, e := range l {
		for _, t := range all {
			if e.Kind == api.EvCommit && t.End == at {
				told = append(told, t)
			}
		}
	}
	return told
}

// of is a plain Of, out of plain Tries.
func of(all []hist.Try, thread, txn int) []hist.Try {
	return slices.DeleteFunc(slices.Clone(all), func(t hist.Try) bool { return t.Thread != thread || t.Txn != txn })
}

// before is a plain Before.
func before(l []api.Event, place int) int {
	n := 0
	for at, e := range l {
		if at < place && e.Kind == api.EvCommit {
			n++
		}
	}
	return n
}

// equal says whether two lists of tries are the same; nil and empty ones are.
func equal(a, b []hist.Try) bool {
	return slices.EqualFunc(a, b, func(a, b hist.Try) bool {
		accesses := slices.Equal(a.Accesses, b.Accesses)
		a.Accesses, b.Accesses = nil, nil
		return accesses && reflect.DeepEqual(a, b)
	})
}

// check holds all that a trace tells against what the plain ones tell, and that it is as it was behind that.
func check(t *testing.T, l []api.Event) {
	t.Helper()
	was := slices.Clone(l)
	all := tries(l)
	if got, want := hist.Right(l), right(l); got != want {
		t.Fatalf("Right of %v: %v", l, got)
	}
	if got := hist.Tries(l); !equal(got, all) {
		t.Fatalf("Tries of %v: %+v, not %+v", l, got, all)
	}
	if got, want := hist.Commits(l), commits(l, all); !equal(got, want) {
		t.Fatalf("Commits of %v: %+v, not %+v", l, got, want)
	}
	asked := map[[2]int]bool{{0, 0}: true, {-1, 0}: true, {0, -1}: true, {9, 9}: true}
	for _, e := range l {
		asked[[2]int{e.Thread, e.Txn}] = true
	}
	for a := range asked {
		if got, want := hist.Of(l, a[0], a[1]), of(all, a[0], a[1]); !equal(got, want) {
			t.Fatalf("Of %v of %v: %+v, not %+v", a, l, got, want)
		}
	}
	for place := -2; place <= len(l)+2; place++ {
		if got, want := hist.Before(l, place), before(l, place); got != want {
			t.Fatalf("Before %d of %v: %d, not %d", place, l, got, want)
		}
	}
	if !slices.Equal(l, was) {
		t.Fatalf("%v became %v", was, l)
	}
}

// nothing asks a trace for being none that is right: it tells no tries.
func nothing(t *testing.T, l []api.Event) {
	t.Helper()
	if hist.Right(l) {
		t.Errorf("%v is right", l)
	}
	if got := hist.Tries(l); len(got) != 0 {
		t.Errorf("Tries of %v: %+v", l, got)
	}
	if got := hist.Commits(l); len(got) != 0 {
		t.Errorf("Commits of %v: %+v", l, got)
	}
	for _, e := range l {
		if got := hist.Of(l, e.Thread, e.Txn); len(got) != 0 {
			t.Errorf("Of %d, %d of %v: %+v", e.Thread, e.Txn, l, got)
		}
	}
	check(t, l)
}

// something asks a trace for being right, and for so many tries, and so many that committed.
func something(t *testing.T, l []api.Event, all, committed int) {
	t.Helper()
	if !hist.Right(l) {
		t.Errorf("%v isn't right", l)
	}
	if got := hist.Tries(l); len(got) != all {
		t.Errorf("Tries of %v: %+v", l, got)
	}
	if got := hist.Commits(l); len(got) != committed {
		t.Errorf("Commits of %v: %+v", l, got)
	}
	check(t, l)
}
