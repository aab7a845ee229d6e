package model_test

import (
	"fmt"
	"math"
	"slices"
	"testing"

	"quarrel/api"
	"quarrel/model"
)

// P18.1: the first values, and what each try that committed makes of those ahead, in the order of End.
func TestStates(t *testing.T) {
	for _, c := range []struct {
		first []int64
		words string
		want  [][]int64
	}{
		{[]int64{5}, "b001 w0010=7 c001", [][]int64{{5}, {7}}},
		// No event, and no commit.
		{[]int64{5, 6}, "", [][]int64{{5, 6}}}, {nil, "", [][]int64{nil}}, {[]int64{}, "", [][]int64{nil}},
		{[]int64{5, 6}, "b001", [][]int64{{5, 6}}}, {[]int64{5, 6}, "b001 r0010=5 w0010=7", [][]int64{{5, 6}}}, {[]int64{5, 6}, "b001 w0010=7 a001!1", [][]int64{{5, 6}}}, {[]int64{5, 6}, "f000!5 f010!5", [][]int64{{5, 6}}},
		{[]int64{5, 6}, "b001 w0010=7 a001!1 b002 w0021=8 a002!2 b003 w0030=9", [][]int64{{5, 6}}},
		// One that wrote nothing, one that only read, and one that wrote.
		{[]int64{5, 6}, "b001 c001", [][]int64{{5, 6}, {5, 6}}}, {[]int64{5, 6}, "b001 r0010=5 r0011=6 c001", [][]int64{{5, 6}, {5, 6}}}, {[]int64{5, 6}, "b001 r0010=9 x0010 c001", [][]int64{{5, 6}, {5, 6}}},
		{[]int64{5, 6}, "b001 w0011=7 c001", [][]int64{{5, 6}, {5, 7}}}, {[]int64{5, 6}, "b001 w0010=7 w0011=8 w0010=9 c001", [][]int64{{5, 6}, {9, 8}}}, {[]int64{5, 6}, "b001 w0010=5 c001", [][]int64{{5, 6}, {5, 6}}},
		{[]int64{5, 6}, "b001 w0010=7 x0010 c001", [][]int64{{5, 6}, {7, 6}}},
		// Many.
		{[]int64{5}, "b001 w0010=7 c001 b011 w0110=8 c011 b021 c021 b031 w0310=5 c031", [][]int64{{5}, {7}, {8}, {8}, {5}}},
		{[]int64{5, 6}, "b001 w0010=7 c001 b101 w1011=8 c101 b201 w2010=1 w2011=2 c201", [][]int64{{5, 6}, {7, 6}, {7, 8}, {1, 2}}},
		{[]int64{5}, "b001 w0010=7 c001 b002 w0020=8 c002", [][]int64{{5}, {7}, {8}}},
		// Those that began later end first.
		{[]int64{5, 6}, "b001 w0010=1 b101 w1010=2 c101 c001", [][]int64{{5, 6}, {2, 6}, {1, 6}}}, {[]int64{5, 6}, "b001 b101 w0010=1 w1010=2 c001 c101", [][]int64{{5, 6}, {1, 6}, {2, 6}}},
		{[]int64{5, 6}, "b001 b101 b201 w2010=1 w1010=2 w0010=3 c101 c201 c001", [][]int64{{5, 6}, {2, 6}, {1, 6}, {3, 6}}},
		{[]int64{5, 6}, "b201 w2010=3 w2011=3 b101 w1011=2 b001 w0010=1 c001 c101 c201", [][]int64{{5, 6}, {1, 6}, {1, 2}, {3, 3}}},
		// Aborted ones, and such as have not ended, between.
		{[]int64{5, 6}, "b001 w0010=7 a001!2 b002 w0021=8 c002", [][]int64{{5, 6}, {5, 8}}}, {[]int64{5, 6}, "b101 w1010=7 b001 w0011=8 c001", [][]int64{{5, 6}, {5, 8}}},
		{[]int64{5, 6}, "b101 w1010=7 w1011=7 b001 w0011=8 c001 a101!1 b201 w2010=9", [][]int64{{5, 6}, {5, 8}}}, {[]int64{5, 6}, "b001 w0010=7 c001 b011 w0110=8 w0111=9", [][]int64{{5, 6}, {7, 6}}},
		{[]int64{5, 6}, "b001 w0010=1 a001!1 b011 w0111=2 a011!3 b002 c002 f000!4 b012 w0120=4 c012", [][]int64{{5, 6}, {5, 6}, {4, 6}}},
		// Objects that there aren't.
		{nil, "b001 w0010=7 c001", [][]int64{nil, nil}}, {[]int64{}, "b001 w0010=7 c001 b011 c011", [][]int64{nil, nil, nil}}, {[]int64{5}, "b001 w0011=7 c001 b011 w0110=8 w0112=9 c011", [][]int64{{5}, {5}, {8}}},
		{[]int64{1, 2, 3, 4, 5, 6, 7, 8}, "b001 w0017=9 w0018=10 c001", [][]int64{{1, 2, 3, 4, 5, 6, 7, 8}, {1, 2, 3, 4, 5, 6, 7, 9}}},
	} {
		l := trace(c.words)
		if got := model.States(c.first, l); !equal(got, c.want) {
			t.Errorf("%v, %q: %v, not %v", c.first, c.words, got, c.want)
		}
		if got := model.Last(c.first, l); !slices.Equal(got, c.want[len(c.want)-1]) {
			t.Errorf("%v, %q: the last one %v", c.first, c.words, got)
		}
		check(t, c.first, l)
		beginnings(t, c.first, l)
	}
	if got := model.States(nil, []api.Event{}); len(got) != 1 || len(got[0]) != 0 {
		t.Errorf("no event: %v", got)
	}
}

// onlyFirst asks a trace for being none that is right: it tells just the first values.
func onlyFirst(t *testing.T, first []int64, l []api.Event) {
	t.Helper()
	if got := model.States(first, l); len(got) != 1 || !slices.Equal(got[0], first) {
		t.Errorf("States of %v: %v", l, got)
	}
	if got := model.Last(first, l); !slices.Equal(got, first) {
		t.Errorf("Last of %v: %v", l, got)
	}
	check(t, first, l)
}

// P18.1: of a trace that isn't right there are just the first values, however much of it is right.
func TestStatesOfWrongOnes(t *testing.T) {
	for _, words := range wrongs() {
		for _, ahead := range []string{"", "b801 w8010=9 c801", "b801 w8011=9 c801 b811 w8110=8 c811"} {
			for _, first := range [][]int64{{5}, {5, 6}, nil} {
				onlyFirst(t, first, append(trace(ahead), trace(words)...))
			}
		}
	}
	for _, l := range strange() {
		onlyFirst(t, []int64{5, 6}, l)
		onlyFirst(t, nil, l)
	}
}

// P18.1: values, objects, threads, transactions, stamps and reasons are any numbers.
func TestStatesOfAnyNumbers(t *testing.T) {
	for _, n := range numbers() {
		for _, obj := range numbers() {
			l := []api.Event{
				{Kind: api.EvBegin, Thread: n, Txn: -n, Attempt: 1, Val: int64(n)},
				{Kind: api.EvWrite, Thread: n, Txn: -n, Attempt: 1, Obj: obj, Val: int64(n), Reason: n},
				{Kind: api.EvCommit, Thread: n, Txn: -n, Attempt: 1, Reason: n, Obj: n, Val: int64(n)},
			}
			want := []int64{5, math.MinInt64, math.MaxInt64}
			if obj >= 0 && obj < 3 {
				want[obj] = int64(n)
			}
			if got := model.States([]int64{5, math.MinInt64, math.MaxInt64}, l); !equal(got, [][]int64{{5, math.MinInt64, math.MaxInt64}, want}) {
				t.Errorf("%d, %d: %v", n, obj, got)
			}
			check(t, []int64{int64(n), int64(obj)}, l)
		}
	}
}

// P18.1: what is handed in is as it was, its spare room too, and isn't kept; each state is one's own, its spare room too, and what is told later hangs on none of them.
func TestStatesAreOnesOwn(t *testing.T) {
	for _, words := range []string{"", "b001 w0010=7", "b001 c001", "b001 w0010=7 c001 b011 c011 b021 w0211=8 w0210=9 c021 b031 w0310=1 a031!1", "c001"} {
		room, events := []int64{5, 6, 21, 22, 23}, append(trace(words), trace("c001 c001 b999")...)
		first, l := room[:2], events[:len(events)-3]
		was, want := slices.Clone(events), states(first, l)
		last := want[len(want)-1]
		for i := range want {
			all, lone := model.States(first, l), model.Last(first, l)
			spoil(all[i])
			for j, state := range all {
				if j != i && !slices.Equal(state, want[j]) {
					t.Errorf("%q: the state %d hangs on the state %d", words, j, i)
				}
			}
			if !slices.Equal(lone, last) {
				t.Errorf("%q: the last one hangs on the state %d", words, i)
			}
			for j := range all[:cap(all)] {
				all[:cap(all)][j] = []int64{-99}
			}
		}
		all, lone := model.States(first, l), model.Last(first, l)
		spoil(model.Last(first, l))
		if !equal(all, want) || !slices.Equal(lone, last) || !slices.Equal(room, []int64{5, 6, 21, 22, 23}) || !slices.Equal(events, was) {
			t.Errorf("%q: %v, %v, %v, %v", words, all, lone, room, events)
		}
		spoil(room)
		clear(events)
		if !equal(all, want) || !slices.Equal(lone, last) {
			t.Errorf("%q: %v, %v behind that", words, all, lone)
		}
	}
	empty := make([]int64, 0, 5)
	l := trace("b001 w0010=7 c001")
	spoil(model.Last(empty, l))
	for _, state := range model.States(empty, l) {
		spoil(state)
	}
	if room := empty[:5]; !slices.Equal(room, make([]int64, 5)) {
		t.Errorf("spare room: %v", room)
	}
}

// beginnings asks of each beginning of a trace that is right that its states are a beginning of the trace's.
func beginnings(t *testing.T, first []int64, l []api.Event) {
	t.Helper()
	all, done := model.States(first, l), 0
	for n := range len(l) + 1 {
		if n > 0 && l[n-1].Kind == api.EvCommit {
			done++
		}
		if got := model.States(first, l[:n]); len(got) != done+1 || !equal(got, all[:done+1]) {
			t.Fatalf("the beginning %d of %v, %v: %v, not of %v", n, first, l, got, all)
		}
		if got := model.Last(first, l[:n]); !slices.Equal(got, all[done]) {
			t.Fatalf("the beginning %d of %v, %v: at last %v, not %v", n, first, l, got, all[done])
		}
	}
	if len(all) != done+1 {
		t.Fatalf("%v: %d states of %d commits", l, len(all), done)
	}
}

// P18.1, P18.3: very many tries, in each other and behind each other, in time.
func TestLongTrace(t *testing.T) {
	const n = 50_000
	var l []api.Event
	all := make([][][]api.Op, n)
	for i := range n {
		l = append(l, api.Event{Kind: api.EvBegin, Thread: i, Attempt: 1}, api.Event{Kind: api.EvWrite, Thread: i, Attempt: 1, Obj: i % 8, Val: int64(i % 100)})
		all[i] = [][]api.Op{ops(fmt.Sprintf("=%d w%d", i%100, i%8))}
	}
	for i := range n {
		l = append(l, api.Event{Kind: api.EvCommit, Thread: n - 1 - i, Attempt: 1})
	}
	first := make([]int64, 8)
	if got := model.Last(first, l); !slices.Equal(got, []int64{0, 1, 2, 3, 4, 5, 6, 7}) {
		t.Errorf("at last %v", got)
	}
	if got := model.States(first, l); len(got) != n+1 || !slices.Equal(got[0], first) || !slices.Equal(got[1], []int64{0, 0, 0, 0, 0, 0, 0, 99}) || !slices.Equal(got[n-1], []int64{8, 1, 2, 3, 4, 5, 6, 7}) {
		t.Errorf("%d states", len(got))
	}
	if !model.Runs(first, l, all) {
		t.Error("they don't run")
	}
	all[0][0][0].Arg++
	if model.Runs(first, l, all) {
		t.Error("the last one writes something else alone")
	}
	many := make([]int64, n)
	if got := model.Last(many, l); len(got) != n || got[7] != 7 || got[8] != 0 {
		t.Errorf("%d values", len(got))
	}
}
