package model_test

import (
	"math"
	"slices"
	"testing"

	"quarrel/api"
	"quarrel/hist"
	"quarrel/model"
)

// P18.1: each object that a try wrote has what it wrote to it last; the others have what they had.
func TestApply(t *testing.T) {
	for _, c := range []struct {
		values []int64
		words  string
		want   []int64
	}{
		{[]int64{5}, "w0=7", []int64{7}},
		// No values.
		{nil, "", nil}, {nil, "w0=7", nil}, {nil, "r0=5 w0=7 w1=8 w-1=9", nil},
		{[]int64{}, "", nil}, {[]int64{}, "w0=7", nil},
		// No accesses, and reads alone.
		{[]int64{5, 6}, "", []int64{5, 6}},
		{[]int64{5, 6}, "r0=7", []int64{5, 6}}, {[]int64{5, 6}, "r0=7o r1=8x r0=9ox", []int64{5, 6}},
		// One object, once and more often.
		{[]int64{5, 6}, "w0=7", []int64{7, 6}}, {[]int64{5, 6}, "w1=7", []int64{5, 7}}, {[]int64{5, 6}, "w0=5", []int64{5, 6}},
		{[]int64{5, 6}, "w0=7 w0=8", []int64{8, 6}}, {[]int64{5, 6}, "w0=8 w0=7", []int64{7, 6}}, {[]int64{5, 6}, "w1=7 w1=9 w1=8", []int64{5, 8}},
		{[]int64{5, 6}, "w0=7 w0=5", []int64{5, 6}}, {[]int64{5, 6}, "w0=7 w0=0", []int64{0, 6}},
		// Several objects, whatever is between.
		{[]int64{5, 6, 4}, "w2=7 w0=8", []int64{8, 6, 7}}, {[]int64{5, 6, 4}, "w0=1 w1=2 w2=3", []int64{1, 2, 3}}, {[]int64{5, 6, 4}, "w0=1 w1=2 w0=3 w1=4 w1=5", []int64{3, 5, 4}},
		{[]int64{5, 6}, "r0=5 w0=7 r0=7o r1=9x w1=8 r1=8o", []int64{7, 8}},
		// Marks say nothing of a write.
		{[]int64{5, 6}, "w0=7o w1=8x", []int64{7, 8}}, {[]int64{5, 6}, "w0=7 w0=8ox", []int64{8, 6}},
		// Objects that there aren't, next to the last one, and far off.
		{[]int64{5, 6, 4}, "w2=7", []int64{5, 6, 7}}, {[]int64{5, 6, 4}, "w3=7", []int64{5, 6, 4}}, {[]int64{5, 6, 4}, "w-1=7", []int64{5, 6, 4}},
		{[]int64{5, 6, 4}, "w3=7 w2=8 w4=9", []int64{5, 6, 8}}, {[]int64{5, 6, 4}, "w-1=7 w0=8 w-2=9", []int64{8, 6, 4}}, {[]int64{5}, "w1=7", []int64{5}},
		{[]int64{1, 2, 3, 4, 5, 6, 7, 8}, "w7=9 w8=10", []int64{1, 2, 3, 4, 5, 6, 7, 9}},
		{[]int64{1, 2, 3, 4, 5, 6, 7, 8, 9, 10}, "w9=11", []int64{1, 2, 3, 4, 5, 6, 7, 8, 9, 11}},
	} {
		if got := model.Apply(c.values, try(c.words)); !slices.Equal(got, c.want) {
			t.Errorf("%v, %q: %v, not %v", c.values, c.words, got, c.want)
		}
		checkTry(t, c.values, try(c.words))
	}
}

// P18.1: values and objects are any numbers.
func TestApplyOfAnyNumbers(t *testing.T) {
	for _, n := range numbers() {
		for _, obj := range numbers() {
			x := hist.Try{Accesses: []hist.Access{{Kind: api.EvWrite, Obj: obj, Val: int64(n)}}}
			want := []int64{5, math.MinInt64, math.MaxInt64}
			if obj >= 0 && obj < 3 {
				want[obj] = int64(n)
			}
			if got := model.Apply([]int64{5, math.MinInt64, math.MaxInt64}, x); !slices.Equal(got, want) {
				t.Errorf("%d, %d: %v, not %v", n, obj, got, want)
			}
			if got := model.Apply(nil, x); len(got) != 0 {
				t.Errorf("%d, %d of no values: %v", n, obj, got)
			}
		}
	}
}

// P18.1: accesses of other kinds than EvWrite write nothing.
func TestApplyOfOtherKinds(t *testing.T) {
	for _, kind := range numbers() {
		want := []int64{7, 8}
		if kind == api.EvWrite {
			want = []int64{9, 9}
		}
		x := try("w0=7 w1=8")
		x.Accesses = append(x.Accesses, hist.Access{Kind: kind, Val: 9}, hist.Access{Kind: kind, Obj: 1, Val: 9})
		if got := model.Apply([]int64{5, 6}, x); !slices.Equal(got, want) {
			t.Errorf("the kind %d: %v, not %v", kind, got, want)
		}
		checkTry(t, []int64{5, 6}, x)
	}
}

// P18.1: the last one is the last one among the accesses, whatever their places; of what else is told of a try nothing is asked.
func TestApplyAsksForNothingElse(t *testing.T) {
	for _, n := range numbers() {
		for _, committed := range []bool{true, false} {
			x := hist.Try{Thread: n, Txn: n, Attempt: n, Stamp: n, Begin: n, End: n, Reason: n, Committed: committed, Accesses: []hist.Access{
				{Place: 9, Kind: api.EvWrite, Val: 7}, {Place: n, Kind: api.EvWrite, Val: 8}, {Place: -n, Kind: api.EvWrite, Obj: 1, Val: 3}, {Place: 1, Kind: api.EvWrite, Obj: 1, Val: 4},
			}}
			if got := model.Apply([]int64{5, 6}, x); !slices.Equal(got, []int64{8, 4}) {
				t.Errorf("%+v: %v", x, got)
			}
		}
	}
}

// spoil changes all of a list, its spare room too.
func spoil(l []int64) {
	for i := range l[:cap(l)] {
		l[:cap(l)][i] = -99
	}
}

// P18.1: what is handed in is as it was, its spare room too, and isn't kept; what is told is one's own, its spare room too.
func TestApplyIsOnesOwn(t *testing.T) {
	for _, words := range []string{"", "r0=5", "w0=7", "w2=7 w0=8 w3=9 w4=1"} {
		room := []int64{5, 6, 4, 21, 22, 23}
		values, x := room[:3], try(words)
		accesses := append(slices.Clone(x.Accesses), hist.Access{Kind: api.EvWrite, Val: 31}, hist.Access{Kind: api.EvWrite, Val: 32})
		was := slices.Clone(accesses)
		x.Accesses = accesses[:len(x.Accesses)]
		want := apply(values, x)
		one, other := model.Apply(values, x), model.Apply(values, x)
		spoil(one)
		if !slices.Equal(other, want) || !slices.Equal(room, []int64{5, 6, 4, 21, 22, 23}) || !slices.Equal(accesses, was) {
			t.Errorf("%q: %v, %v, %v", words, other, room, accesses)
		}
		if got := model.Apply(values, x); !slices.Equal(got, want) {
			t.Errorf("%q: %v later", words, got)
		}
		spoil(room)
		for i := range accesses {
			accesses[i] = hist.Access{}
		}
		if !slices.Equal(other, want) {
			t.Errorf("%q: %v behind that", words, other)
		}
	}
	for _, values := range [][]int64{nil, {}, make([]int64, 0, 5)} {
		spoil(model.Apply(values, try("w0=7")))
		if l := values[:cap(values)]; slices.Contains(l, -99) || slices.Contains(l, 7) {
			t.Errorf("spare room: %v", l)
		}
	}
}

// P18.1, P18.2: very many values, and very many accesses, in time.
func TestLongTry(t *testing.T) {
	const n = 300_000
	values := make([]int64, n)
	var x hist.Try
	for i := range n {
		x.Accesses = append(x.Accesses, hist.Access{Kind: api.EvRead, Obj: i}, hist.Access{Kind: api.EvWrite, Obj: i % 3, Val: int64(i)})
	}
	got := model.Apply(values, x)
	if len(got) != n || got[0] != n-3 || got[1] != n-2 || got[2] != n-1 || got[3] != 0 {
		t.Errorf("%d values, %v", len(got), got[:4])
	}
	if !model.Fits(values, x) {
		t.Error("it reads each object once, ahead of its writes")
	}
	x.Accesses[2*n-2].Val = 1
	if model.Fits(values, x) {
		t.Error("the last read tells another value")
	}
}
