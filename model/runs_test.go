package model_test

import (
	"math"
	"slices"
	"testing"

	"quarrel/api"
	"quarrel/model"
)

// P18.3: each try that committed makes of the state ahead what its transaction makes of it alone.
func TestRuns(t *testing.T) {
	for _, c := range []struct {
		first []int64
		words string
		all   [][][]api.Op
		want  bool
	}{
		// Nothing committed: no transaction is asked for.
		{nil, "", nil, true}, {[]int64{5}, "", nil, true}, {[]int64{5}, "", lists("=7 w0"), true}, {[]int64{5}, "f000!5 f010!5", nil, true}, {[]int64{5}, "b001 r0010=9 w0010=9", nil, true}, {[]int64{5}, "b001 w0010=9 a001!1", lists("=7 w0"), true},
		// One that reads, writes, sets and adds.
		{[]int64{5}, "b001 w0010=7 c001", lists("=7 w0"), true}, {[]int64{5}, "b001 w0010=8 c001", lists("=7 w0"), false}, {[]int64{5}, "b001 c001", lists("=7 w0"), false},
		{[]int64{7, 2}, "b001 r0010=7 w0011=12 c001", lists("r0 +5 w1"), true}, {[]int64{7, 2}, "b001 r0010=7 w0011=11 c001", lists("r0 +5 w1"), false}, {[]int64{7, 2}, "b001 r0010=7 w0010=12 c001", lists("r0 +5 w1"), false},
		{[]int64{7, 2}, "b001 r0010=7 w0011=2 w0010=12 c001", lists("r0 -5 w1"), false}, {[]int64{7, 3}, "b001 r0010=7 w0011=2 c001", lists("r0 -5 w1"), true},
		{[]int64{5}, "b001 r0010=5 c001", lists("r0"), true}, {[]int64{5}, "b001 c001", lists("=7"), true}, {[]int64{5}, "b001 c001", lists("=7 +1 -2"), true}, {[]int64{5}, "b001 w0010=0 c001", lists("w0"), true}, {[]int64{5}, "b001 w0010=1 c001", lists("w0"), false},
		{[]int64{math.MaxInt64}, "b001 r0010=1 w0010=-9223372036854775808 c001", lists("r0 +1 w0"), true},
		{[]int64{1, 2, 3, 4, 5, 6, 7, 8}, "b001 r0017=8 w0010=8 c001", lists("r7 w0"), true},
		// What it read, and how it got there, plays no part: just what is left.
		{[]int64{5}, "b001 r0010=99 w0010=7 c001", lists("r0 +2 w0"), true}, {[]int64{5}, "b001 w0010=7 c001", lists("r0 +2 w0"), true}, {[]int64{5}, "b001 w0010=6 w0010=7 c001", lists("r0 +2 w0"), true}, {[]int64{5}, "b001 w0010=7 w0010=6 c001", lists("r0 +2 w0"), false},
		{[]int64{5}, "b001 w0010=5 c001", lists("r0"), true}, {[]int64{5}, "b001 c001", lists("r0 w0"), true}, {[]int64{5}, "b001 c001", lists("=5 w0"), true}, {[]int64{5, 6}, "b001 w0011=6 w0010=7 c001", lists("=7 w0"), true}, {[]int64{5, 6}, "b001 w0011=9 w0010=7 w0011=6 c001", lists("=7 w0"), true},
		// One object differs, or several do.
		{[]int64{5, 6}, "b001 w0010=7 w0011=8 c001", lists("=7 w0"), false}, {[]int64{5, 6}, "b001 w0010=7 c001", lists("=7 w0 w1"), false}, {[]int64{5, 6, 4}, "b001 w0010=7 w0011=7 w0012=8 c001", lists("=7 w0 w1 w2"), false}, {[]int64{5, 6}, "b001 w0011=7 c001", lists("=7 w0"), false},
		{[]int64{5, 6, 4}, "b001 w0010=7 w0011=7 w0012=7 c001", lists("=7 w0 w1 w2"), true},
		// Objects that there aren't: their writes play no part, but an operation on one is none.
		{[]int64{5}, "b001 w0010=7 w0011=8 c001", lists("=7 w0"), true}, {[]int64{5}, "b001 w0011=7 c001", lists("=7 w1"), false}, {[]int64{5}, "b001 c001", lists("r1"), false}, {nil, "b001 c001", lists("=7"), true}, {nil, "b001 w0010=7 c001", lists("=7"), true}, {nil, "b001 w0010=7 c001", lists("=7 w0"), false}, {[]int64{}, "b001 c001", lists("+1"), true},
		// Several, each on what those ahead of it left, in the order of End.
		{[]int64{5}, "b001 r0010=5 w0010=6 c001 b101 r1010=6 w1010=7 c101", lists("r0 +1 w0", "r0 +1 w0"), true}, {[]int64{5}, "b001 r0010=5 w0010=6 c001 b101 r1010=5 w1010=6 c101", lists("r0 +1 w0", "r0 +1 w0"), false},
		{[]int64{5}, "b001 b101 r1010=5 w1010=8 c101 r0010=8 w0010=9 c001", lists("r0 +1 w0", "r0 +3 w0"), true}, {[]int64{5}, "b001 b101 w0010=6 w1010=9 c101 c001", lists("r0 +1 w0", "r0 +3 w0"), false},
		{[]int64{5}, "b001 b101 w0010=6 w1010=9 c001 c101", lists("r0 +1 w0", "r0 +3 w0"), true}, {[]int64{5}, "b001 w0010=6 c001 b011 w0110=8 c011 b021 w0210=11 c021", lists("r0 +1 w0/r0 +2 w0/r0 +3 w0"), true},
		{[]int64{5}, "b001 w0010=6 c001 b011 w0110=8 c011 b021 w0210=12 c021", lists("r0 +1 w0/r0 +2 w0/r0 +3 w0"), false}, {[]int64{5}, "b001 w0010=7 c001 b011 w0110=9 c011 b021 w0210=12 c021", lists("r0 +1 w0/r0 +2 w0/r0 +3 w0"), false},
		{[]int64{5}, "b011 w0110=6 c011 b001 w0010=8 c001", lists("r0 +2 w0/r0 +1 w0"), true}, {[]int64{5}, "b001 w0010=7 c001 b002 w0020=9 c002", lists("r0 +2 w0"), true}, {[]int64{5}, "b001 w0010=7 c001 b002 w0020=7 c002", lists("r0 +2 w0"), false},
		// One that wrote what it shouldn't, and another one that writes over that.
		{[]int64{5}, "b001 w0010=6 c001 b101 w1010=9 c101", lists("=7 w0", "=9 w0"), false}, {[]int64{5}, "b001 w0010=7 c001 b101 w1010=9 c101", lists("=7 w0", "=9 w0"), true},
		// Those that were aborted, or haven't ended, wrote nothing.
		{[]int64{5}, "b001 w0010=99 a001!1 b002 w0020=7 c002", lists("=7 w0"), true}, {[]int64{5}, "b001 w0010=7 a001!1 b002 c002", lists("=7 w0"), false}, {[]int64{5, 6}, "b101 w1011=99 b001 w0010=7 c001", lists("=7 w0"), true}, {[]int64{5}, "b001 w0010=7 c001 b011 w0110=99", lists("=7 w0/=8 w0"), true},
		// Refused ones are asked for nothing.
		{[]int64{5}, "b001 w0010=7 c001 f010!5 f990!4", lists("=7 w0"), true},
	} {
		if got := checkRuns(t, c.first, trace(c.words), c.all); got != c.want {
			t.Errorf("%v, %q, %v: %v", c.first, c.words, c.all, got)
		}
	}
}

// P18.3: an EvRelease of a try that committed, of nothing read or of another object too; of one that was aborted, or has not ended, it plays no part.
func TestRunsAndReleases(t *testing.T) {
	for _, c := range []struct {
		words string
		all   [][][]api.Op
		want  bool
	}{
		{"b001 r0010=5 w0010=7 c001", lists("r0 x0 +2 w0"), true}, {"b001 r0010=5 x0010 w0010=7 c001", lists("r0 x0 +2 w0"), false}, {"b001 r0010=5 x0010 w0010=7 c001", lists("r0 +2 w0"), false}, {"b001 c001", lists("x0"), true}, {"b001 x0010 c001", lists("x0"), false},
		{"b001 r0010=5 x0011 c001", lists("r0"), false}, {"b001 w0010=7 x0010 c001", lists("=7 w0"), false},
		{"b001 r0010=5 x0010 a001!1 b002 w0020=7 c002", lists("r0 x0 +2 w0"), true}, {"b001 x0010 a001!1 b002 x0020 a002!1 b003 c003", lists("r0 x0"), true}, {"b001 a001!1 b002 x0020 c002", lists("r0 x0"), false},
		{"b001 w0010=7 c001 b011 r0110=7 x0110", lists("=7 w0/r0 x0"), true}, {"b001 r0010=5 x0010", lists("r0 x0"), true}, {"b001 x0010 a001!2", lists("r0 x0"), true},
		{"b101 x1010 b001 w0010=7 c001 a101!2", lists("=7 w0", "r0 x0"), true}, {"b101 x1010 b001 w0010=7 c001", lists("=7 w0", "r0 x0"), true}, {"b101 b001 x1010 w0010=7 c001 c101", lists("=7 w0", "r0 x0"), false},
		{"b001 c001 b011 x0110 a011!2 b012 c012", lists("r0/r0 x0"), true}, {"b001 c001 b011 c011 b021 x0210 c021", lists("r0/r0/r0 x0"), false}, {"b001 x0010 c001 b011 c011", lists("r0 x0/r0"), false},
		{"b011 x0110 a011!1 b001 c001", lists("r0/r0"), true}, {"b111 x1110 a111!1 b011 c011 b101 c101", lists("r0/r0", "r0/r0"), true}, {"b001 x0010 a001!1 b101 c101 b102 c102 b002 c002 b011 c011", lists("r0/r0", "r0"), true},
	} {
		if got := checkRuns(t, []int64{5, 6}, trace(c.words), c.all); got != c.want {
			t.Errorf("%q, %v: %v", c.words, c.all, got)
		}
	}
}

// P18.3: a transaction that there is not, by thread or by number, or that is none.
func TestRunsWithoutTransactions(t *testing.T) {
	l := trace("b001 c001 b011 c011 b101 c101")
	for _, c := range []struct {
		all  [][][]api.Op
		want bool
	}{
		{lists("r0/r0", "r0"), true}, {lists("r0/r0", "r0", "r0", ""), true}, {lists("r0/r0/w0 w1", "r0/x0/=99 w0"), true},
		{nil, false}, {[][][]api.Op{}, false}, {lists("r0/r0"), false}, {lists("r0", "r0"), false}, {lists("r0/r0", ""), false}, {lists("", "r0"), false}, {lists("", ""), false}, {lists("r0", "r0/r0"), false}, {lists("r0", "r0", "r0"), false}, {[][][]api.Op{nil, nil}, false},
		// What is no transaction: none, more than eight, or one that may not be.
		{[][][]api.Op{{ops("r0"), nil}, {ops("r0")}}, false}, {[][][]api.Op{{ops("r0"), {}}, {ops("r0")}}, false}, {lists("r0/r0", "r0 r0 r0 r0 r0 r0 r0 r0"), true}, {lists("r0/r0", "r0 r0 r0 r0 r0 r0 r0 r0 r0"), false},
		{lists("r0/r2", "r0"), false}, {lists("r0/r0", "r1"), true}, {lists("r0/r0", "r-1"), false}, {lists("r0/r0", "=128"), false}, {lists("r0/r0", "=127"), true}, {lists("r0/r0", "-129"), false}, {lists("r0/r0", "x2"), false},
		{[][][]api.Op{{ops("r0"), ops("r0")}, {{{Kind: 6}}}}, false}, {[][][]api.Op{{ops("r0"), ops("r0")}, {{{}}}}, false}, {[][][]api.Op{{ops("r0"), ops("r0")}, {{{Kind: api.Read, Arg: 1}}}}, false},
		// What is none doesn't matter, where nobody committed it.
		{append(lists("r0/r0", "r0"), [][]api.Op{{{Kind: 99}}}), true}, {[][][]api.Op{{ops("r0"), ops("r0"), nil}, {ops("r0"), {{Kind: 99}}}}, true},
	} {
		if got := checkRuns(t, []int64{5, 6}, l, c.all); got != c.want {
			t.Errorf("%v: %v", c.all, got)
		}
	}
	for _, thread := range numbers() {
		for _, no := range numbers() {
			of := func(words string) []api.Event {
				l := trace(words)
				for i := range l {
					l[i].Thread, l[i].Txn = thread, no
				}
				return l
			}
			all := lists("=7 w0/=7 w0", "=7 w0/=7 w0/=7 w0", "")
			want := thread == 0 && (no == 0 || no == 1) || thread == 1 && (no == 0 || no == 1 || no == 2)
			if got := checkRuns(t, []int64{5}, of("b001 w0010=7 c001"), all); got != want {
				t.Errorf("%d, %d: %v", thread, no, got)
			}
			for _, words := range []string{"b001 w0010=7 a001!1", "b001 w0010=7", "f000!5"} {
				if !checkRuns(t, []int64{5}, of(words), all) || !checkRuns(t, []int64{5}, of(words), nil) {
					t.Errorf("%d, %d: %q committed nothing", thread, no, words)
				}
			}
		}
	}
}

// P18.3: a trace that isn't right doesn't run, however much of it is right.
func TestRunsOfWrongOnes(t *testing.T) {
	all := lists("=7 w0/r0/r0", "r0/r0")
	if !checkRuns(t, []int64{5}, trace("b001 w0010=7 c001 b011"), all) {
		t.Error("a right one doesn't run")
	}
	for _, words := range wrongs() {
		if checkRuns(t, []int64{5}, trace(words), all) {
			t.Errorf("%q runs", words)
		}
		if checkRuns(t, nil, trace(words), nil) {
			t.Errorf("%q runs on nothing", words)
		}
	}
	for _, l := range strange() {
		if checkRuns(t, []int64{5}, l, all) {
			t.Errorf("%v runs", l)
		}
	}
}

// P18.3: what is handed in is as it was, its spare room too, and isn't kept.
func TestRunsKeepsNothing(t *testing.T) {
	first := []int64{5, 6, 21, 22}
	events := trace("b001 w0010=7 c001 b101 w1010=9 w1011=9 c101 c001")
	all := lists("=7 w0 =9", "r0 +2 w0 w1 =9", "=9")
	all[0][0], all[1][0] = all[0][0][:2], all[1][0][:4]
	room := func() [][][]api.Op { return [][][]api.Op{{all[0][0][:3]}, {all[1][0][:5]}, all[2]} }
	ahead, was, given := slices.Clone(first), slices.Clone(events), copyOf(room())
	for range 3 {
		if !model.Runs(first[:2], events[:7], all[:2]) {
			t.Error("it doesn't run")
		}
	}
	if !slices.Equal(first, ahead) || !slices.Equal(events, was) || !sameAll(room(), given) {
		t.Errorf("%v, %v, %v", first, events, room())
	}
	all[1][0][1].Arg = 3
	if model.Runs(first[:2], events[:7], all[:2]) {
		t.Error("it runs as it ran before")
	}
	events[4].Val, events[5].Val = 10, 10
	if !model.Runs(first[:2], events[:7], all[:2]) {
		t.Error("it doesn't run any more")
	}
}
