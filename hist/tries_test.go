package hist_test

import (
	"fmt"
	"math"
	"slices"
	"testing"

	"quarrel/api"
	"quarrel/hist"
)

// one is the only try of a trace.
func one(t *testing.T, words string) hist.Try {
	t.Helper()
	l := hist.Tries(trace(words))
	if len(l) != 1 {
		t.Fatalf("%q: %+v", words, l)
	}
	return l[0]
}

// P17.2: a try that committed, one that was aborted for each reason, and one that has not ended, each whole.
func TestOneTry(t *testing.T) {
	for _, c := range []struct {
		words string
		want  hist.Try
	}{
		{"b001=7 c001", hist.Try{Attempt: 1, Stamp: 7, End: 1, Committed: true}},
		{"b231=9 r2310=5 w2311=6 c231", hist.Try{Thread: 2, Txn: 3, Attempt: 1, Stamp: 9, End: 3, Committed: true, Accesses: []hist.Access{{Place: 1, Kind: api.EvRead, Val: 5}, {Place: 2, Kind: api.EvWrite, Obj: 1, Val: 6}}}},
		{"b001 a001!1", hist.Try{Attempt: 1, End: 1, Reason: api.Invalid}},
		{"b001 a001!2", hist.Try{Attempt: 1, End: 1, Reason: api.Enemy}},
		{"b001 a001!3", hist.Try{Attempt: 1, End: 1, Reason: api.Self}},
		{"b001 a001!4", hist.Try{Attempt: 1, End: 1, Reason: api.Memory}},
		{"f000!5 f000!5 b011=2 x0110 a011!1 f010!4", hist.Try{Txn: 1, Attempt: 1, Stamp: 2, Begin: 2, End: 4, Reason: api.Invalid}},
		{"b001=4", hist.Try{Attempt: 1, Stamp: 4, End: -1}},
		{"f100!5 b001=4 f110!5 r0012=-3 f120!5 x0013", hist.Try{Attempt: 1, Stamp: 4, Begin: 1, End: -1, Accesses: []hist.Access{{Place: 3, Kind: api.EvRead, Obj: 2, Val: -3}}}},
	} {
		l := trace(c.words)
		check(t, l)
		if got := hist.Tries(l); !equal(got, []hist.Try{c.want}) {
			t.Errorf("%q: %+v", c.words, got)
		}
		if got := hist.Of(l, c.want.Thread, c.want.Txn); !equal(got, []hist.Try{c.want}) {
			t.Errorf("%q: of the transaction %+v", c.words, got)
		}
		if got := hist.Commits(l); (len(got) == 1) != c.want.Committed || len(got) == 1 && !equal(got, []hist.Try{c.want}) {
			t.Errorf("%q: committed %+v", c.words, got)
		}
	}
}

// P17.2: an EvCommit's Reason, and the values of what ends or releases, are told nowhere; a Stamp is just the EvBegin's.
func TestFieldsThatAreNotTold(t *testing.T) {
	l := trace("b001=7 x0010 c001 b011=8 a011!3")
	for i := range l {
		l[i].Obj = 5
		if l[i].Kind != api.EvBegin {
			l[i].Val = 99
		}
		if l[i].Kind != api.EvAbort {
			l[i].Reason = 4
		}
	}
	want := []hist.Try{{Attempt: 1, Stamp: 7, End: 2, Committed: true}, {Txn: 1, Attempt: 1, Stamp: 8, Begin: 3, End: 4, Reason: api.Self}}
	if got := hist.Tries(l); !equal(got, want) {
		t.Errorf("%+v", got)
	}
	check(t, l)
}

// P17.2: stamps, values, objects and reasons are told as they are, below 0 too, and at the ends of what a number can be.
func TestToldAsTheyAre(t *testing.T) {
	for _, n := range numbers() {
		for _, obj := range []int{0, n, math.MaxInt, -1} {
			l := []api.Event{
				{Kind: api.EvBegin, Thread: n, Txn: n, Attempt: 1, Val: int64(n)},
				{Kind: api.EvRead, Thread: n, Txn: n, Attempt: 1, Obj: n, Val: int64(n)},
				{Kind: api.EvWrite, Thread: n, Txn: n, Attempt: 1, Obj: obj, Val: int64(-n)},
				{Kind: api.EvRead, Thread: n, Txn: n, Attempt: 1, Obj: n, Val: math.MinInt64},
				{Kind: api.EvRelease, Thread: n, Txn: n, Attempt: 1, Obj: obj},
				{Kind: api.EvAbort, Thread: n, Txn: n, Attempt: 1, Reason: n},
			}
			want := hist.Try{Thread: n, Txn: n, Attempt: 1, Stamp: n, End: 5, Reason: n, Accesses: []hist.Access{
				{Place: 1, Kind: api.EvRead, Obj: n, Val: int64(n), Released: obj == n},
				{Place: 2, Kind: api.EvWrite, Obj: obj, Val: int64(-n)},
				{Place: 3, Kind: api.EvRead, Obj: n, Val: math.MinInt64, Own: obj == n, Released: obj == n},
			}}
			if got := hist.Tries(l); !equal(got, []hist.Try{want}) {
				t.Errorf("%d, %d: %+v", n, obj, got)
			}
			if got := hist.Of(l, n, n); !equal(got, []hist.Try{want}) {
				t.Errorf("%d, %d: of the transaction %+v", n, obj, got)
			}
			check(t, l)
		}
	}
}

// marks are a try's accesses in words: the event's letter, the object, and what is marked.
func marks(try hist.Try) string {
	var s string
	for _, a := range try.Accesses {
		s += fmt.Sprintf("%c%d", " brwxcaf"[a.Kind], a.Obj)
		if a.Own {
			s += "o"
		}
		if a.Released {
			s += "x"
		}
		s += " "
	}
	return s
}

// P17.2: a read is own, if its try wrote that object ahead of it; released, if its try releases that object behind it.
func TestMarks(t *testing.T) {
	for _, c := range []struct{ words, want string }{
		{"b001 c001", ""},
		{"b001 r0010 r0010 r0011 c001", "r0 r0 r1 "},
		{"b001 w0010 r0010 r0011 c001", "w0 r0o r1 "},
		{"b001 r0010 w0010 r0010 w0010 r0010", "r0 w0 r0o w0 r0o "},
		{"b001 w0011 r0010 w0010 r0010 r0011", "w1 r0 w0 r0o r1o "},
		{"b001 x0010 c001", ""},
		{"b001 r0010 x0010 c001", "r0x "},
		{"b001 r0010 r0010 x0010 c001", "r0x r0x "},
		{"b001 x0010 r0010 c001", "r0 "},
		{"b001 x0010 r0010 x0010 r0010", "r0x r0 "},
		{"b001 r0010 x0010 r0010 x0010 a001!1", "r0x r0x "},
		{"b001 r0010 x0010 x0010 r0010 a001!1", "r0x r0 "},
		{"b001 r0010 x0011 c001", "r0 "},
		{"b001 r0010 r0011 x0011 r0011 x0010 r0010", "r0x r1x r1 r0 "},
		{"b001 r0010 w0010 x0010", "r0x w0 "},
		{"b001 w0010 x0010 r0010", "w0 r0o "},
		{"b001 w0010 r0010 x0010", "w0 r0ox "},
		{"b001 r0010 w0010 r0010 x0010 r0010 w0010", "r0x w0 r0ox r0o w0 "},
		{"b001 w0010 w0010 x0010 x0010", "w0 w0 "},
	} {
		if got := marks(one(t, c.words)); got != c.want {
			t.Errorf("%q: %q, not %q", c.words, got, c.want)
		}
		check(t, trace(c.words))
	}
}

// P17.2: what another try of the thread, ahead or behind, or another thread wrote or released marks nothing.
func TestMarksOfOthers(t *testing.T) {
	for _, c := range []struct {
		words string
		at    int
		want  string
	}{
		{"b001 w0010 a001!1 b002 r0020", 1, "r0 "},
		{"b001 w0010 c001 b011 r0110", 1, "r0 "},
		{"b001 r0010 a001!1 b002 x0020 c002", 0, "r0 "},
		{"b001 r0010 c001 b011 r0110 x0110 c011", 0, "r0 "},
		{"b001 r0010 c001 b011 r0110 x0110 c011", 1, "r0x "},
		{"b001 r0010 x0010 a001!2 b002 r0020 w0020", 1, "r0 w0 "},
		{"b001 b101 w1010 r0010 r1010", 0, "r0 "},
		{"b001 b101 w1010 r0010 r1010", 1, "w0 r0o "},
		{"b001 b101 r0010 r1010 x1010 c101 c001", 0, "r0 "},
		{"b001 b101 r0010 r1010 x1010 c101 c001", 1, "r0x "},
		{"b101 w1010 c101 b001 r0010", 1, "r0 "},
		{"b001 r0010 b101 r1010 c101 x0010", 0, "r0x "},
		{"b001 w0010 b101 w1011 r1010 r0011 r1011 r0010", 0, "w0 r1 r0o "},
		{"b001 w0010 b101 w1011 r1010 r0011 r1011 r0010", 1, "w1 r0 r1o "},
	} {
		l := trace(c.words)
		if got := marks(hist.Tries(l)[c.at]); got != c.want {
			t.Errorf("%q, %d: %q, not %q", c.words, c.at, got, c.want)
		}
		check(t, l)
	}
}

// places are the Begin and End of tries, in words.
func places(l []hist.Try) string {
	var s string
	for _, t := range l {
		s += fmt.Sprintf("%d-%d ", t.Begin, t.End)
	}
	return s
}

// P17.2: tries are told in the order of Begin, those that committed in the order of End, whether they lie in each other, or one in another, or behind each other.
func TestOrder(t *testing.T) {
	for _, c := range []struct{ words, all, committed string }{
		{"b001 c001 b101 c101", "0-1 2-3 ", "0-1 2-3 "},
		{"b001 b101 c101 c001", "0-3 1-2 ", "1-2 0-3 "},
		{"b001 b101 c001 c101", "0-2 1-3 ", "0-2 1-3 "},
		{"b301 b201 b101 b001 c101 c301 c001 c201", "0-5 1-7 2-4 3-6 ", "2-4 0-5 3-6 1-7 "},
		{"b001 b101 a101!1 b102 a102!2 c001 b103 b011 c011 c103", "0-5 1-2 3-4 6-9 7-8 ", "0-5 7-8 6-9 "},
		{"b501 b401 b301 b201 b101 b001", "0--1 1--1 2--1 3--1 4--1 5--1 ", ""},
		{"b001 b101 b201 c101 b111 a201!4 b301", "0--1 1-3 2-5 4--1 6--1 ", "1-3 "},
		{"f000!5 b111 f010!5 c111 f020!5 b121", "1-3 5--1 ", "1-3 "},
	} {
		l := trace(c.words)
		if got := places(hist.Tries(l)); got != c.all {
			t.Errorf("%q: %q, not %q", c.words, got, c.all)
		}
		if got := places(hist.Commits(l)); got != c.committed {
			t.Errorf("%q: committed %q, not %q", c.words, got, c.committed)
		}
		check(t, l)
	}
}

// P17.2: tries that don't end, of so many threads that their order is no accident.
func TestOrderOfManyThatGoOn(t *testing.T) {
	var l []api.Event
	for i := range 500 {
		l = append(l, api.Event{Kind: api.EvBegin, Thread: i * 7919 % 500, Attempt: 1})
	}
	for range 5 {
		for i, try := range hist.Tries(l) {
			if try.Begin != i || try.Thread != i*7919%500 || try.End != -1 {
				t.Fatalf("the try %d is %+v", i, try)
			}
		}
	}
	check(t, l[:40])
}

// P17.2: those of a transaction, one behind the other, with others of that thread and of others between.
func TestOf(t *testing.T) {
	l := trace("b001 b101 a001!1 b011 c101 a011!2 f020!5 b002 b111 c111 a002!3 f000!4 b012 c012 b003 c003 b201")
	for _, c := range []struct {
		thread, txn int
		want        string
	}{
		{0, 0, "0-2 7-10 14-15 "}, {0, 1, "3-5 12-13 "}, {1, 0, "1-4 "}, {1, 1, "8-9 "}, {2, 0, "16--1 "},
		{0, 2, ""}, {1, 2, ""}, {2, 1, ""}, {3, 0, ""}, {-1, 0, ""}, {0, -1, ""}, {math.MaxInt, 0, ""}, {math.MinInt, math.MinInt, ""}, {1 << 32, 0, ""}, {0, 1 << 32, ""},
	} {
		if got := places(hist.Of(l, c.thread, c.txn)); got != c.want {
			t.Errorf("%d, %d: %q, not %q", c.thread, c.txn, got, c.want)
		}
	}
	check(t, l)
	for _, thread := range numbers() {
		for _, txn := range numbers() {
			if got := hist.Of(nil, thread, txn); len(got) != 0 {
				t.Errorf("%d, %d of no event: %+v", thread, txn, got)
			}
		}
	}
}

// ruin changes all that a list of tries has, its spare room too.
func ruin(l []hist.Try) {
	for i := range l {
		a := l[i].Accesses
		for j := range a[:cap(a)] {
			a[:cap(a)][j] = hist.Access{Place: -9, Kind: -9, Obj: -9, Val: -9, Own: true, Released: true}
		}
		_ = append(a, hist.Access{Place: -8})
	}
	for i := range l[:cap(l)] {
		l[:cap(l)][i] = hist.Try{Thread: -9, Begin: -9, End: -9}
	}
}

// P17.2: what was handed in is as it was, its spare room too, and isn't kept; what is told, and changed, changes nothing, and none of it is shared.
func TestHandedInAndTold(t *testing.T) {
	room := trace("b001=1 b101=2 w0010 r0010 r1010 x0010 r0011 c101 b111 w1111 a001!1 b002 r0020 f200!5 a111!2")
	room = append(room, trace("b999 c999 c999 c999 c999")...)
	l := room[:15]
	was := slices.Clone(room)
	for _, tell := range []func() []hist.Try{
		func() []hist.Try { return hist.Tries(l) },
		func() []hist.Try { return hist.Commits(l) },
		func() []hist.Try { return hist.Of(l, 0, 0) },
		func() []hist.Try { return hist.Of(l, 1, 1) },
	} {
		first, kept, spoilt := tell(), tell(), tell()
		for i := range spoilt {
			ruin(spoilt[i : i+1 : i+1])
			for j := range spoilt[i+1:] {
				if !equal(spoilt[i+1+j:i+2+j], first[i+1+j:i+2+j]) {
					t.Fatalf("the try %d hangs on the try %d", i+1+j, i)
				}
			}
		}
		spoilt = tell()
		ruin(spoilt)
		if !equal(first, kept) || !equal(tell(), first) || len(first) == 0 {
			t.Errorf("%+v, %+v", first, kept)
		}
	}
	if hist.Right(l); hist.Before(l, 9) != 1 || !slices.Equal(room, was) {
		t.Errorf("%v", room)
	}
	told, committed := hist.Tries(l), hist.Commits(l)
	want, done := tries(was[:15]), commits(was[:15], tries(was[:15]))
	for i := range room {
		room[i] = api.Event{Kind: -1}
	}
	if !equal(told, want) || !equal(committed, done) {
		t.Errorf("%+v", told)
	}
	nothing(t, l)
}

// P17.2: a try of very many accesses, of one object and of many, and a trace of very many tries, are told in time.
func TestLongOnes(t *testing.T) {
	const n = 100_000
	l := trace("b001")
	for i := range n {
		l = append(l, api.Event{Kind: []int{api.EvRead, api.EvWrite, api.EvRelease}[i%3], Attempt: 1, Obj: i % 7, Val: int64(i)})
	}
	for i := range n {
		l = append(l, api.Event{Kind: []int{api.EvRead, api.EvRelease}[i%2], Attempt: 1, Obj: i / 2, Val: int64(i)})
	}
	for i := range n {
		l = append(l, api.Event{Kind: api.EvRead, Attempt: 1, Obj: -i % 3})
	}
	for range n {
		l = append(l, api.Event{Kind: api.EvRelease, Attempt: 1, Obj: -1})
	}
	l = append(l, trace("c001")...)
	for i := range n {
		l = append(l, api.Event{Kind: api.EvBegin, Thread: i, Txn: 3, Attempt: 1})
	}
	for i := range n {
		l = append(l, api.Event{Kind: api.EvCommit, Thread: n - 1 - i, Txn: 3, Attempt: 1})
	}
	if all := hist.Tries(l); len(all) != n+1 || len(all[0].Accesses) != 2*n/3+1+n/2+n || all[n].Thread != n-1 {
		t.Errorf("%d tries, %d accesses", len(all), len(all[0].Accesses))
	}
	if done := hist.Commits(l); len(done) != n+1 || done[1].Thread != n-1 || done[n].Thread != 0 {
		t.Errorf("%d committed", len(done))
	}
	if got := hist.Before(l, len(l)); got != n+1 {
		t.Errorf("%d commits", got)
	}
}
