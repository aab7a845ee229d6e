package opaque_test

import (
	"fmt"
	"math"
	"slices"
	"strings"
	"testing"

	"quarrel/api"
	"quarrel/opaque"
)

// puts are the words of tries of the thread 9 that commit, one behind the other, from its transaction no on: each writes a value to the object 0.
func puts(no int, vals ...int) string {
	var words []string
	for i, val := range vals {
		words = append(words, fmt.Sprintf("b9%d1 w9%d10=%d c9%d1", no+i, no+i, val, no+i))
	}
	return strings.Join(words, " ")
}

// P19.1, P19.2: the chapter's example, and how it looks where the reader commits, or reads something else.
func TestExample(t *testing.T) {
	told(t, []int64{5}, trace("b001 r0010=5 b101 w1010=7 c101 a001!1"), []int{0, 0}, []int{0, 1})
	told(t, []int64{5}, trace("b001 b101 w1010=7 c101 r0010=7 a001!1"), []int{1, 0}, []int{1, 0})
	refused(t, []int64{5}, trace("b001 r0010=5 b101 w1010=7 c101 c001"), 0, api.ErrState)
	refused(t, []int64{5}, trace("b001 r0010=6 b101 w1010=7 c101 a001!1"), 0, api.ErrState)
}

// P19.1, P19.2: no values, no event, no commit, one, and many.
func TestSeen(t *testing.T) {
	for _, c := range []struct {
		first     []int64
		words     string
		ps, turns []int
	}{
		// No event, and none that began.
		{nil, "", nil, nil}, {[]int64{}, "", nil, nil}, {[]int64{5, 6}, "", nil, nil}, {nil, "f000!5", nil, nil}, {[]int64{5}, "f000!5 f110!4", nil, nil},
		// No values.
		{nil, "b001", []int{0}, []int{0}}, {[]int64{}, "b001 c001", []int{0}, []int{0}}, {nil, "b001 w0010=7 r0010=7 c001", []int{0}, []int{0}}, {nil, "b001 r0010=7 x0010 a001!1", []int{0}, []int{0}},
		{[]int64{}, "b001 w0010=7 c001 b101 c101", []int{0, 1}, []int{0, 1}},
		// None committed.
		{[]int64{5, 6}, "b001 b101 b201", []int{0, 0, 0}, []int{0, 1, 2}}, {[]int64{5, 6}, "b001 r0010=5 a001!1 b002 r0021=6 w0021=9 a002!2 b003 r0031=6", []int{0, 0, 0}, []int{0, 1, 2}},
		{[]int64{5, 6}, "b201 b101 b001 a001!1 a101!1 a201!1", []int{0, 0, 0}, []int{0, 1, 2}},
		// One committed.
		{[]int64{5, 6}, "b001 r0010=5 w0010=7 c001", []int{0}, []int{0}}, {[]int64{5, 6}, "b001 r0010=5 w0010=7 c001 b101 r1010=7 r1011=6 a101!1", []int{0, 1}, []int{0, 1}}, {[]int64{5, 6}, "f000!5 b101 f000!5 c101 f100!4", []int{0}, []int{0}},
		// Many committed.
		{[]int64{5}, "b001 r0010=5 w0010=7 c001 b011 r0110=7 w0110=8 c011 b021 r0210=8 c021 b031 r0310=8 w0310=5 c031", []int{0, 1, 2, 3}, []int{0, 1, 2, 3}},
		{[]int64{5}, "b001 r0010=5 w0010=7 a001!1 b002 r0020=5 w0020=7 c002 b003 r0030=7 c003", []int{0, 0, 1}, []int{0, 1, 2}},
		// They commit in another order than the one in which they began.
		{[]int64{5, 6}, "b001 b101 w1010=7 c101 r0010=7 w0011=8 c001", []int{1, 0}, []int{1, 0}}, {[]int64{5}, "b001 b101 b201 w2010=1 c201 r1010=1 w1010=2 c101 r0010=2 c001", []int{2, 1, 0}, []int{2, 1, 0}},
		{[]int64{5}, "b001 b101 b201 w1010=1 c101 r2010=1 w2010=2 c201 r0010=2 c001", []int{2, 0, 1}, []int{1, 2, 0}}, {[]int64{5}, "b901 b001 b101 r0010=5 w0010=7 c001 r1010=7 a101!3 r9010=7 c901", []int{1, 0, 1}, []int{1, 2, 0}},
	} {
		told(t, c.first, trace(c.words), c.ps, c.turns)
		check(t, c.first, trace(c.words))
	}
}

// P19.1: a try that has not ended, one that was aborted, and one that committed, each without accesses, with reads alone, writes alone, and both.
func TestAccessesAndEnds(t *testing.T) {
	for words, is := range map[string]bool{
		"": true, "r0010=5": true, "r0011=6": true, "r0010=5 r0011=6 r0010=5": true, "r0010=6": false, "r0010=5 r0011=5": false, "r0010=7 r0011=6": false,
		"w0010=7": true, "w0010=7 w0011=8 w0010=9": true, "w0010=5": true, "w0012=5": true,
		"r0010=5 w0010=7": true, "r0011=6 w0010=7": true, "w0010=7 r0010=7": true, "w0010=7 r0011=6": true, "r0010=7 w0010=7": false, "w0010=7 r0010=5": false, "w0010=7 r0011=7": false, "w0010=7 w0010=8 r0010=7": false, "w0010=7 r0010=7 w0010=8 r0010=8 r0011=6": true,
		"r0012=0": false, "w0012=7 r0012=7": true, "w0012=7 r0012=0": false,
	} {
		for _, end := range []string{"", " a001!1", " a001!4", " c001"} {
			l := trace("b001 " + words + end)
			if is {
				told(t, []int64{5, 6}, l, []int{0}, []int{0})
			} else {
				refused(t, []int64{5, 6}, l, 0, api.ErrState)
			}
			check(t, []int64{5, 6}, l)
		}
	}
}

// P19.1: one that was aborted is seen at the least p from its beginning to its end whose state it fits; not ahead of its beginning, nor behind its end; wherever between them it read.
func TestLeastOfAnAbortedOne(t *testing.T) {
	// The states 0, 1, 2, 1, 3, 2, 4: it begins behind the first commit, and ends ahead of the last one.
	parts := []string{puts(0, 1) + " b001", puts(1, 2), puts(2, 1), puts(3, 3), puts(4, 2), "a001!1 " + puts(5, 4)}
	for val, p := range []int{-1, 1, 2, 4, -1, -1} {
		for at := 1; at < len(parts); at++ {
			l := trace(strings.Join(slices.Insert(slices.Clone(parts), at, fmt.Sprintf("r0010=%d", val)), " "))
			if p < 0 {
				refused(t, []int64{0}, l, 1, api.ErrState)
			} else {
				told(t, []int64{0}, l, []int{0, p, 1, 2, 3, 4, 5}, order(l, []int{0, p, 1, 2, 3, 4, 5}))
			}
			check(t, []int64{0}, l)
		}
	}
}

// P19.1: the only state that one fits is the one at its beginning, one between, or the one at its end.
func TestOnlyState(t *testing.T) {
	for val := range 7 {
		l := trace(puts(0, 1, 2) + " b001 " + puts(2, 3, 4) + fmt.Sprintf(" r0010=%d a001!2 ", val) + puts(4, 5, 6))
		switch val {
		case 2, 3, 4:
			ps := []int{0, 1, val, 2, 3, 4, 5}
			told(t, []int64{0}, l, ps, order(l, ps))
		default:
			refused(t, []int64{0}, l, 2, api.ErrState)
		}
	}
}

// P19.1: one that has no End is seen at the least p from its beginning on, the last state being one, too.
func TestOneThatHasNotEnded(t *testing.T) {
	for val, p := range []int{-1, 1, 2, 3, 4, -1} {
		l := trace(puts(0, 1) + fmt.Sprintf(" b001 r0010=%d ", val) + puts(1, 2, 3, 4))
		if p < 0 {
			refused(t, []int64{0}, l, 1, api.ErrState)
		} else {
			ps := []int{0, p, 1, 2, 3}
			told(t, []int64{0}, l, ps, order(l, ps))
		}
		check(t, []int64{0}, l)
	}
	told(t, []int64{0}, trace("b001 r0010=1 "+puts(0, 1, 0, 1)), []int{1, 0, 1, 2}, []int{1, 0, 2, 3})
	told(t, []int64{0}, trace("b001 "+puts(0, 1, 0, 1)+" r0010=0"), []int{0, 0, 1, 2}, []int{0, 1, 2, 3})
	refused(t, []int64{0}, trace(puts(0, 1)+" b001 r0010=0"), 1, api.ErrState)
	refused(t, []int64{0}, trace("b001 r0010=1"), 0, api.ErrState)
	told(t, []int64{0}, trace("b001 r0010=1 "+puts(0, 1)), []int{1, 0}, []int{1, 0})
}

// P19.1: one that committed is seen at its own commit, and at no other p, whatever else it fits.
func TestOneThatCommitted(t *testing.T) {
	for val := range 7 {
		l := trace(puts(0, 1, 2) + fmt.Sprintf(" b001 r0010=%d ", val) + puts(2, 3, 4) + " w0010=5 c001 " + puts(4, 6))
		if val == 4 {
			told(t, []int64{0}, l, []int{0, 1, 4, 2, 3, 5}, []int{0, 1, 3, 4, 2, 5})
		} else {
			refused(t, []int64{0}, l, 2, api.ErrState)
		}
		check(t, []int64{0}, l)
	}
	// What it fits is there ahead of its commit, or is there again behind it; what it wrote itself is not the state ahead of it.
	refused(t, []int64{0}, trace("b001 r0010=0 "+puts(0, 1)+" c001"), 0, api.ErrState)
	refused(t, []int64{0}, trace("b001 r0010=1 c001 "+puts(0, 1)), 0, api.ErrState)
	refused(t, []int64{0}, trace("b001 r0010=1 w0010=1 c001"), 0, api.ErrState)
	told(t, []int64{0}, trace("b001 r0010=0 "+puts(0, 1, 0)+" c001"), []int{2, 0, 1}, []int{1, 2, 0})
	told(t, []int64{0}, trace("b001 r0010=1 "+puts(0, 1)+" c001"), []int{1, 0}, []int{1, 0})
}

// P19.1: all reads of a try must be there at once, not one by one.
func TestAllAtOnce(t *testing.T) {
	// The states 00, 10, 11, 01, 00.
	const changes = "b901 w9010=1 c901 b911 w9111=1 c911 b921 w9210=0 c921 b931 w9311=0 c931"
	for _, c := range []struct {
		words string
		p     int
	}{
		{"r0010=0 r0011=0", 0}, {"r0010=1 r0011=0", 1}, {"r0010=1 r0011=1", 2}, {"r0010=0 r0011=1", 3}, {"r0010=1", 1}, {"r0011=1", 2}, {"r0010=0", 0}, {"r0011=0", 0},
		{"r0011=1 r0010=0", 3}, {"r0011=0 r0010=1", 1}, {"r0010=1 r0010=0", -1}, {"r0010=0 r0010=1 r0011=1", -1}, {"r0010=1 w0010=0 r0010=0 r0011=1", 2}, {"w0010=9 r0010=9 r0011=1", 2}, {"r0010=1 r0011=2", -1}, {"r0011=2 r0010=1", -1},
	} {
		for _, l := range [][]api.Event{trace("b001 " + c.words + " " + changes + " a001!1"), trace("b001 " + changes + " " + c.words + " a001!3"), trace("b001 " + changes + " " + c.words)} {
			if c.p < 0 {
				refused(t, []int64{0, 0}, l, 0, api.ErrState)
			} else {
				ps := []int{c.p, 0, 1, 2, 3}
				told(t, []int64{0, 0}, l, ps, order(l, ps))
			}
			check(t, []int64{0, 0}, l)
		}
	}
	// One commit changes both; what it wrote on its way is no state.
	told(t, []int64{0, 0}, trace("b001 r0010=1 r0011=1 b901 w9010=2 w9011=1 w9010=1 c901 a001!1"), []int{1, 0}, []int{1, 0})
	refused(t, []int64{0, 0}, trace("b001 r0010=2 r0011=1 b901 w9010=2 w9011=1 w9010=1 c901 a001!1"), 0, api.ErrState)
	refused(t, []int64{0, 0}, trace("b001 r0010=1 r0011=0 b901 w9010=1 w9011=1 c901 a001!1"), 0, api.ErrState)
}

// P19.1: what didn't commit makes no state.
func TestWhatDidNotCommit(t *testing.T) {
	for _, end := range []string{"", "a101!1"} {
		refused(t, []int64{5}, trace("b101 w1010=7 b001 r0010=7 c001 "+end), 1, api.ErrState)
		refused(t, []int64{5}, trace("b101 w1010=7 "+end+" b001 r0010=7"), 1, api.ErrState)
		told(t, []int64{5}, trace("b101 w1010=7 "+end+" b001 r0010=5 c001"), []int{0, 0}, []int{0, 1})
	}
	refused(t, []int64{5}, trace("b001 r0010=7 b101 w1010=7"), 0, api.ErrState)
	refused(t, []int64{5}, trace("b001 r0010=7 b101 w1010=7 a001!1 c101"), 0, api.ErrState)
	told(t, []int64{5}, trace("b001 r0010=7 b101 w1010=7 c101 a001!1"), []int{1, 0}, []int{1, 0})
}

// P19.1: what was released isn't asked, what is own is asked by what the try wrote, of objects that there are and others.
func TestReleasedAndOwn(t *testing.T) {
	for words, is := range map[string]bool{
		"r0010=9 x0010": true, "r0010=9 x0011": false, "x0010 r0010=9": false, "r0010=9 x0010 r0010=9": false, "r0010=9 x0010 r0010=5": true, "r0010=9 r0010=8 x0010 r0011=6": true, "r0010=9 x0010 r0011=5": false,
		"r0017=9 x0017": true, "r0017=9": false, "r0010=9 r0011=9 x0010 x0011": true, "r0010=9 r0011=9 x0011": false, "r0010=5 x0010": true,
		"w0010=7 r0010=7": true, "w0010=7 r0010=5": false, "r0010=5 w0010=7 r0010=7": true, "r0010=5 w0010=7 r0010=5": false, "w0017=7 r0017=7": true, "w0017=7 r0017=8": false,
		"w0010=7 r0010=8 x0010": true, "w0010=7 r0010=8 x0010 r0010=7": true, "w0010=7 r0010=7 x0010 r0010=8": false, "r0010=9 x0010 w0010=7 r0010=7": true, "r0010=9 w0010=7 x0010": true,
	} {
		for _, end := range []string{"", " a001!1", " c001"} {
			l := trace("b001 " + words + end)
			if is {
				told(t, []int64{5, 6}, l, []int{0}, []int{0})
			} else {
				refused(t, []int64{5, 6}, l, 0, api.ErrState)
			}
			check(t, []int64{5, 6}, l)
		}
	}
	// An own one that fits no state fits no later one either; a released one keeps nobody from being seen at once.
	refused(t, []int64{5}, trace("b001 w0010=7 r0010=8 "+puts(0, 8, 7)+" a001!1"), 0, api.ErrState)
	refused(t, []int64{5}, trace("b001 r0010=8 w0010=7 r0010=8 "+puts(0, 8, 7)+" a001!1"), 0, api.ErrState)
	told(t, []int64{5}, trace("b001 r0010=8 x0010 "+puts(0, 8, 7)+" a001!1"), []int{0, 0, 1}, []int{0, 1, 2})
	told(t, []int64{5}, trace("b001 r0010=8 x0010 r0010=7 "+puts(0, 8, 7)+" a001!1"), []int{2, 0, 1}, []int{1, 2, 0})
	refused(t, []int64{5}, trace("b001 r0010=5 "+puts(0, 7)+" r0010=7 a001!1"), 0, api.ErrState)
	told(t, []int64{5}, trace("b001 r0010=5 "+puts(0, 7)+" x0010 r0010=7 a001!1"), []int{1, 0}, []int{1, 0})
	// The release counts, wherever it stands behind the read; behind a beginning of the trace alone it doesn't.
	told(t, []int64{5, 6}, trace("b001 r0010=5 "+puts(0, 7)+" r0010=7 r0011=6 x0010 c001"), []int{1, 0}, []int{1, 0})
	beginnings(t, []int64{5, 6}, trace("b001 r0010=5 "+puts(0, 7)+" r0010=7 r0011=6 x0010 c001"))
}

// P19.1: of those that aren't seen the first one's place among all tries is told, whichever ended first, and whichever are seen.
func TestFirstThatIsNotSeen(t *testing.T) {
	for _, c := range []struct {
		words string
		place int
	}{
		{"b001 r0010=9 b101 r1010=9", 0}, {"b001 r0010=9 a001!1 b101 r1010=9 a101!1", 0}, {"b001 b101 r1010=9 a101!1 r0010=9 a001!1", 0}, {"b001 b101 r1010=9 c101 r0010=9 c001", 0}, {"b001 r0010=9 b101 r1010=9 c101", 0}, {"b001 b101 r1010=9 r0010=9 c001", 0},
		{"b201 b001 b101 r1010=9 c101 r0010=9", 1}, {"b201 c201 b001 b101 r1010=9 r0010=9 a001!1", 1}, {"b201 a201!2 b301 r3010=5 b101 r1010=9 b001 r0010=9 a001!1 a101!1", 2}, {"b901 b801 b701 b001 r0010=9 c001 c701 c801 b601 r6010=9 c601", 3},
		{"b001 a001!1 b002 a002!1 b003 r0030=9 a003!1 b004 r0040=9 a004!1 b005 r0050=5 c005", 2}, {"b001 c001 b101 c101 b111 r1110=9 c111", 2}, {"b001 c001 b011 c011 b021 c021 b031 r0310=9", 3},
	} {
		refused(t, []int64{5}, trace(c.words), c.place, api.ErrState)
		check(t, []int64{5}, trace(c.words))
	}
	// All 16 ways in which four tries are seen, or not, in each order of their ends.
	for bits := range 16 {
		for _, ends := range [][]int{{0, 1, 2, 3}, {3, 2, 1, 0}, {2, 0, 3, 1}} {
			words := "b001 b101 b201 b301"
			for no := range 4 {
				words += fmt.Sprintf(" r%d010=%d", no, 5+bits>>no&1)
			}
			for i, no := range ends {
				words += fmt.Sprintf([]string{" c%d01", " a%d01!1"}[i%2], no)
			}
			first := slices.IndexFunc([]int{0, 1, 2, 3}, func(no int) bool { return bits>>no&1 == 1 })
			if place, e := opaque.Check([]int64{5}, trace(words)); place != first || (e == api.ErrState) != (first >= 0) || e != api.ErrState && e != api.OK {
				t.Errorf("%q: %d, %d", words, place, e)
			}
			check(t, []int64{5}, trace(words))
		}
	}
}

// P19.1, P19.2: of a trace that isn't right, whatever could be seen of it or not, Check tells 0 and ErrForm, Seen and Order none.
func TestWrongTraces(t *testing.T) {
	for _, words := range wrongs() {
		for _, ahead := range []string{"", "b801 w8010=5 c801 ", "b801 r8010=99 c801 ", "b801 r8010=99 ", "f800!5 "} {
			for _, behind := range []string{"", " b701 c701", " b701 r7010=99"} {
				for _, first := range [][]int64{{5, 6}, {5}, nil} {
					refused(t, first, trace(ahead+words+behind), 0, api.ErrForm)
				}
			}
		}
	}
	for _, kind := range []int{0, -1, -5, 8, 9, 255, 1<<32 + 1, 1<<32 + 5, math.MaxInt, math.MinInt} {
		l := trace("b001 r0010=5 c001 b011")
		for at := range len(l) + 1 {
			for _, first := range [][]int64{{5, 6}, nil} {
				refused(t, first, slices.Insert(slices.Clone(l), at, api.Event{Kind: kind, Attempt: 1}), 0, api.ErrForm)
			}
		}
	}
}

// of are the events of some words, as they are of a thread, a transaction and an object.
func of(words string, thread, txn, obj int, val int64) []api.Event {
	l := trace(words)
	for i := range l {
		l[i].Thread, l[i].Txn, l[i].Obj, l[i].Reason = thread, txn, obj, thread
		if l[i].Val != 0 {
			l[i].Val = val
		}
	}
	return l
}

// P19.1: threads, transactions, objects, values, stamps and reasons are any numbers.
func TestAnyNumbers(t *testing.T) {
	for _, n := range numbers() {
		for _, m := range numbers() {
			there := m >= 0 && m < 3
			first := []int64{int64(n), int64(n), int64(n)}
			for _, words := range []string{"b001=1 r0010=1 c001", "b001 r0010=1 a001!1", "b001 r0010=1"} {
				l := of(words, n, m, m, int64(n))
				if there {
					told(t, first, l, []int{0}, []int{0})
				} else {
					refused(t, first, l, 0, api.ErrState)
				}
				refused(t, first, of(words, n, m, m, int64(n)^math.MinInt64), 0, api.ErrState)
				refused(t, first, append(l, api.Event{Kind: api.EvCommit, Thread: m - 1, Txn: n, Attempt: n}), 0, api.ErrForm)
			}
			told(t, first, of("b001 w0010=1 r0010=1 c001", m, n, m, int64(n)^1), []int{0}, []int{0})
			l := slices.Concat(of("b001 r0010=1", n, m, m, int64(n)^1), of("b001 w0010=1 c001", n^1, m, m, int64(n)^1), of("a001!1", n, m, m, 0))
			if there {
				told(t, first, l, []int{1, 0}, []int{1, 0})
			} else {
				refused(t, first, l, 0, api.ErrState)
			}
			check(t, first, l)
		}
	}
}

// P19.1, P19.2: what is handed in is as it was, its spare room too, and isn't kept; what is told is one's own, its spare room too.
func TestOnesOwn(t *testing.T) {
	for _, words := range []string{"", "b001", "b001 r0010=5 b101 w1010=7 c101 a001!1", "b001 r0010=7 b101 w1010=7 c101 b201 r2011=6 c201"} {
		room, events := []int64{5, 6, 21, 22, 23}, append(trace(words), trace("c001 c001 b999")...)
		first, l := room[:2], events[:len(events)-3]
		was, want := slices.Clone(events), ask(t, first, l)
		for range 3 {
			ps, _ := opaque.Seen(first, l)
			turns, _ := opaque.Order(first, l)
			got := ask(t, first, l)
			for _, told := range [][]int{ps, turns} {
				all := told[:cap(told)]
				for i := range all {
					all[i] = -99
				}
			}
			for _, a := range []asked{got, ask(t, first, l)} {
				if !slices.Equal(a.seen, want.seen) || !slices.Equal(a.order, want.order) || a.place != want.place {
					t.Errorf("%q: %+v behind that, not %+v", words, a, want)
				}
			}
		}
		if !slices.Equal(room, []int64{5, 6, 21, 22, 23}) || !slices.Equal(events, was) {
			t.Errorf("%q: %v, %v", words, room, events)
		}
		got := ask(t, first, l)
		clear(room)
		clear(events)
		if !slices.Equal(got.seen, want.seen) || !slices.Equal(got.order, want.order) {
			t.Errorf("%q: %+v behind that", words, got)
		}
	}
}
