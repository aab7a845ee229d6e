package model_test

import (
	"math"
	"reflect"
	"slices"
	"strconv"
	"strings"
	"testing"

	"quarrel/api"
	"quarrel/hist"
	"quarrel/lang"
	"quarrel/model"
)

// numbers are ordinary ones, and the ends of what an int can be.
func numbers() []int {
	return []int{0, 1, 2, 3, 4, 5, 6, 7, 8, 255, 256, 4096, math.MaxInt32, 1 << 32, 1<<32 + 1, math.MaxInt - 1, math.MaxInt, -1, -2, -6, -255, math.MinInt32, -1 << 32, -1<<32 + 1, math.MinInt + 1, math.MinInt}
}

// number is one that must be.
func number(word string) int {
	n, err := strconv.Atoi(word)
	if err != nil {
		panic(word)
	}
	return n
}

// letters are the kinds of events.
func letters() map[byte]int {
	return map[byte]int{'b': api.EvBegin, 'r': api.EvRead, 'w': api.EvWrite, 'x': api.EvRelease, 'c': api.EvCommit, 'a': api.EvAbort, 'f': api.EvRefuse}
}

// event is one by its word: its kind's letter; a digit each for the thread, the transaction, the attempt and, if there is one, the object; behind = the value, behind ! the reason.
func event(word string) api.Event {
	kind, is := letters()[word[0]]
	at := strings.IndexAny(word, "=!")
	if at < 0 {
		at = len(word)
	}
	digits := word[1:at]
	if !is || len(digits) < 3 || len(digits) > 4 {
		panic(word)
	}
	e := api.Event{Kind: kind, Thread: int(digits[0] - '0'), Txn: int(digits[1] - '0'), Attempt: int(digits[2] - '0')}
	if len(digits) == 4 {
		e.Obj = int(digits[3] - '0')
	}
	if at < len(word) {
		if n := number(word[at+1:]); word[at] == '=' {
			e.Val = int64(n)
		} else {
			e.Reason = n
		}
	}
	return e
}

// trace is one by its words.
func trace(words string) []api.Event {
	var l []api.Event
	for _, w := range strings.Fields(words) {
		l = append(l, event(w))
	}
	return l
}

// try is one that committed, by its accesses' words: r or w, the object, = and the value, and behind that o of one that is own, x of one that is released.
func try(words string) hist.Try {
	t := hist.Try{Attempt: 1, Committed: true}
	for i, w := range strings.Fields(words) {
		a := hist.Access{Place: i + 1, Kind: letters()[w[0]], Own: strings.Contains(w, "o"), Released: strings.Contains(w, "x")}
		obj, val, _ := strings.Cut(strings.TrimRight(w[1:], "ox"), "=")
		a.Obj, a.Val = number(obj), int64(number(val))
		t.Accesses = append(t.Accesses, a)
	}
	t.End = len(t.Accesses) + 1
	return t
}

// ops are operations by their words: r0 w0 x0 read, write and release, =5 sets, +5 and -5 add.
func ops(words string) []api.Op {
	var l []api.Op
	for _, w := range strings.Fields(words) {
		n := number(w[1:])
		l = append(l, map[byte]api.Op{
			'r': {Kind: api.Read, Obj: n}, 'w': {Kind: api.Write, Obj: n}, 'x': {Kind: api.Release, Obj: n},
			'=': {Kind: api.Set, Arg: int64(n)}, '+': {Kind: api.Add, Arg: int64(n)}, '-': {Kind: api.Add, Arg: int64(-n)},
		}[w[0]])
	}
	return l
}

// lists are threads' transactions: those of one thread are a text, one behind the other, with a stroke between.
func lists(threads ...string) [][][]api.Op {
	var all [][][]api.Op
	for _, words := range threads {
		var txns [][]api.Op
		if words != "" {
			for w := range strings.SplitSeq(words, "/") {
				txns = append(txns, ops(w))
			}
		}
		all = append(all, txns)
	}
	return all
}

// copyOf is a copy of threads' transactions.
func copyOf(all [][][]api.Op) [][][]api.Op {
	var copied [][][]api.Op
	for _, txns := range all {
		var l [][]api.Op
		for _, ops := range txns {
			l = append(l, slices.Clone(ops))
		}
		copied = append(copied, l)
	}
	return copied
}

// equal says whether two lists of states are the same; nil and empty ones are.
func equal(a, b [][]int64) bool { return slices.EqualFunc(a, b, slices.Equal[[]int64]) }

// sameAll says whether two threads' transactions are the same; nil and empty ones are.
func sameAll(a, b [][][]api.Op) bool {
	return slices.EqualFunc(a, b, func(a, b [][]api.Op) bool { return slices.EqualFunc(a, b, slices.Equal[[]api.Op]) })
}

// sameTry says whether two tries are the same, as they are handed in.
func sameTry(a, b hist.Try) bool {
	accesses := slices.Equal(a.Accesses, b.Accesses)
	a.Accesses, b.Accesses = nil, nil
	return accesses && reflect.DeepEqual(a, b)
}

// apply is a plain Apply: of each object it looks from behind for a write.
func apply(values []int64, t hist.Try) []int64 {
	behind := slices.Clone(values)
	for obj := range behind {
		for _, a := range slices.Backward(t.Accesses) {
			if a.Kind == api.EvWrite && a.Obj == obj {
				behind[obj] = a.Val
				break
			}
		}
	}
	return behind
}

// same says whether two events are of one attempt.
func same(a, b api.Event) bool {
	return a.Thread == b.Thread && a.Txn == b.Txn && a.Attempt == b.Attempt
}

// made are the values behind the EvCommit at a place: of each object it looks back from there for a write of that attempt.
func made(values []int64, l []api.Event, place int) []int64 {
	behind := slices.Clone(values)
	for obj := range behind {
		for _, e := range slices.Backward(l[:place]) {
			if e.Kind == api.EvWrite && same(e, l[place]) && e.Obj == obj {
				behind[obj] = e.Val
				break
			}
		}
	}
	return behind
}

// states are plain States: they ask the events, not the tries.
func states(first []int64, l []api.Event) [][]int64 {
	all := [][]int64{slices.Clone(first)}
	if !hist.Right(l) {
		return all
	}
	for place, e := range l {
		if e.Kind == api.EvCommit {
			all = append(all, made(all[len(all)-1], l, place))
		}
	}
	return all
}

// fits is a plain Fits: from each read it looks back for a write.
func fits(values []int64, t hist.Try) bool {
	for i, a := range t.Accesses {
		if a.Kind != api.EvRead || a.Released {
			continue
		}
		own, want, is := false, int64(0), false
		for _, b := range slices.Backward(t.Accesses[:i]) {
			if b.Kind == api.EvWrite && b.Obj == a.Obj {
				own, want, is = true, b.Val, true
				break
			}
		}
		for obj, v := range values {
			if !own && obj == a.Obj {
				want, is = v, true
			}
		}
		if !is || a.Own != own || a.Val != want {
			return false
		}
	}
	return true
}

// runs is a plain Runs: it asks each EvCommit, by the events of its attempt.
func runs(first []int64, l []api.Event, all [][][]api.Op) bool {
	if !hist.Right(l) {
		return false
	}
	values := slices.Clone(first)
	for place, e := range l {
		if e.Kind != api.EvCommit {
			continue
		}
		if slices.ContainsFunc(l, func(o api.Event) bool { return o.Kind == api.EvRelease && same(o, e) }) {
			return false
		}
		if e.Thread < 0 || e.Thread >= len(all) || e.Txn < 0 || e.Txn >= len(all[e.Thread]) {
			return false
		}
		alone, errno := lang.Alone(all[e.Thread][e.Txn], values)
		behind := made(values, l, place)
		if errno != api.OK || !slices.Equal(alone, behind) {
			return false
		}
		values = behind
	}
	return true
}

// checkTry holds what is told of a try against what the plain ones tell, and that what was handed in is as it was.
func checkTry(t *testing.T, values []int64, x hist.Try) {
	t.Helper()
	ahead, was := slices.Clone(values), x
	was.Accesses = slices.Clone(x.Accesses)
	if got, want := model.Apply(values, x), apply(values, x); !slices.Equal(got, want) {
		t.Fatalf("Apply of %v, %+v: %v, not %v", values, x, got, want)
	}
	if got, want := model.Fits(values, x), fits(values, x); got != want {
		t.Fatalf("Fits of %v, %+v: %v", values, x, got)
	}
	if !slices.Equal(values, ahead) || !sameTry(x, was) {
		t.Fatalf("%v, %+v became %v, %+v", ahead, was, values, x)
	}
}

// check holds what is told of a trace against what the plain ones tell, and that what was handed in is as it was.
func check(t *testing.T, first []int64, l []api.Event) {
	t.Helper()
	ahead, was, want := slices.Clone(first), slices.Clone(l), states(first, l)
	if got := model.States(first, l); !equal(got, want) {
		t.Fatalf("States of %v, %v: %v, not %v", first, l, got, want)
	}
	if got := model.Last(first, l); !slices.Equal(got, want[len(want)-1]) {
		t.Fatalf("Last of %v, %v: %v, not %v", first, l, got, want[len(want)-1])
	}
	if !slices.Equal(first, ahead) || !slices.Equal(l, was) {
		t.Fatalf("%v, %v became %v, %v", ahead, was, first, l)
	}
}

// checkRuns holds what Runs tells against what the plain one tells, and that what was handed in is as it was; it tells what Runs told.
func checkRuns(t *testing.T, first []int64, l []api.Event, all [][][]api.Op) bool {
	t.Helper()
	ahead, was, given := slices.Clone(first), slices.Clone(l), copyOf(all)
	got := model.Runs(first, l, all)
	if want := runs(first, l, all); got != want {
		t.Fatalf("Runs of %v, %v, %v: %v", first, l, all, got)
	}
	if !slices.Equal(first, ahead) || !slices.Equal(l, was) || !sameAll(all, given) {
		t.Fatalf("%v, %v, %v became %v, %v, %v", ahead, was, given, first, l, all)
	}
	return got
}

// wrongs are traces that aren't right, each of another fault: of them all but the fault committed and wrote.
func wrongs() []string {
	return []string{
		// The Attempt is too small, or too great; the thread's last try has not ended.
		"b000 w0000=7 c000", "b002 w0020=7 c002", "b001 w0010=7 c001 b001", "b001 w0010=7 c001 b003", "b001 w0010=7 c001 b101 b101",
		"b001 w0010=7 c001 b101 b102", "b001 w0010=7 c001 b101 b111", "b001 w0010=7 c001 b101 f100!4",
		// Nothing began, or the last try has ended.
		"w0010=7 c001", "c001", "b001 w0010=7 c001 r0010=7", "b001 w0010=7 c001 w0010=8", "b001 w0010=7 c001 x0010", "b001 w0010=7 c001 c001", "b001 w0010=7 c001 a001!1",
		"b001 w0010=7 a001!2 c001", "b001 w0010=7 c001 c101", "r1010=5 b001 w0010=7 c001",
		// Another Txn, or another Attempt.
		"b001 w0010=7 c011", "b001 w0110=7 c001", "b001 w0010=7 c002", "b001 w0020=7 c001", "b001 w0010=7 c001 b011 r0010=7", "b001 w0010=7 c001 b002 w0010=7",
		"b001 w0010=7 c001 b011 a001!1", "b001 w0010=7 c001 b011 x0110 x0120",
	}
}

// strange are a right trace with one event of a kind that there isn't, at each place.
func strange() [][]api.Event {
	var all [][]api.Event
	for _, kind := range []int{0, -1, 8, 9, 1<<32 + 3, math.MaxInt, math.MinInt} {
		l := trace("b001 w0010=7 c001 b011")
		for at := range len(l) + 1 {
			all = append(all, slices.Insert(slices.Clone(l), at, api.Event{Kind: kind, Attempt: 1}))
		}
	}
	return all
}
