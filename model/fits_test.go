package model_test

import (
	"math"
	"slices"
	"testing"

	"quarrel/api"
	"quarrel/hist"
	"quarrel/model"
)

// P18.2: each read that isn't released tells what it should.
func TestFits(t *testing.T) {
	for _, c := range []struct {
		values []int64
		words  string
		want   bool
	}{
		// Nothing read.
		{nil, "", true}, {[]int64{}, "", true}, {[]int64{5}, "", true}, {nil, "w0=7", true}, {[]int64{5}, "w0=7 w1=8 w-1=9", true}, {[]int64{5}, "w0=5o w0=7x", true},
		// What is there, and what isn't.
		{[]int64{5, 6}, "r0=5", true}, {[]int64{5, 6}, "r1=6", true}, {[]int64{5, 6}, "r0=6", false}, {[]int64{5, 6}, "r1=5", false}, {[]int64{5, 6}, "r0=0", false}, {[]int64{5, 6}, "r0=-5", false},
		{[]int64{0}, "r0=0", true}, {[]int64{-5}, "r0=-5", true}, {[]int64{-5}, "r0=5", false},
		// Of several reads each one.
		{[]int64{5, 6}, "r0=5 r1=6 r0=5", true}, {[]int64{5, 6}, "r0=5 r1=7", false}, {[]int64{5, 6}, "r0=7 r1=6", false}, {[]int64{5, 6}, "r0=5 r0=7 r0=5", false}, {[]int64{5, 6}, "r0=7 r1=8", false},
		{[]int64{5, 6}, "r0=6 r1=5", false},
		// Objects that there aren't.
		{nil, "r0=0", false}, {[]int64{}, "r0=0", false}, {[]int64{5, 6}, "r2=0", false}, {[]int64{5, 6}, "r2=6", false}, {[]int64{5, 6}, "r-1=0", false}, {[]int64{5, 6}, "r-1=6", false}, {[]int64{5, 6}, "r0=5 r2=0", false},
		{[]int64{5, 6, 0}, "r2=0", true},
		// Released: whatever it tells.
		{[]int64{5, 6}, "r0=7x", true}, {[]int64{5, 6}, "r0=7ox", true}, {[]int64{5, 6}, "r2=7x", true}, {nil, "r0=7x r-1=7ox", true}, {[]int64{5, 6}, "r0=7x r1=6", true}, {[]int64{5, 6}, "r0=7x r1=7", false}, {[]int64{5, 6}, "r0=7x r0=5", true},
		{[]int64{5, 6}, "r0=7x r0=7", false}, {[]int64{5, 6}, "w0=7 r0=5x", true}, {[]int64{5, 6}, "w0=7 r0=5ox r0=7o", true},
		// Own, with a write ahead of it.
		{[]int64{5, 6}, "w0=7 r0=7o", true}, {[]int64{5, 6}, "w0=7 r0=5o", false}, {[]int64{5, 6}, "w0=7 r0=8o", false}, {[]int64{5, 6}, "w0=7 w0=8 r0=8o", true}, {[]int64{5, 6}, "w0=7 w0=8 r0=7o", false},
		{[]int64{5, 6}, "w0=7 r0=7o w0=8 r0=8o", true}, {[]int64{5, 6}, "w0=7 r0=7o w0=8 r0=7o", false}, {[]int64{5, 6}, "w0=7 r0=8o w0=8", false}, {[]int64{5, 6}, "w0=7 r1=6 r0=7o", true}, {[]int64{5, 6}, "w0=7 w1=8 r0=7o r1=8o", true},
		{[]int64{5, 6}, "w0=7 w1=8 r0=8o", false}, {[]int64{5, 6}, "w0=5 r0=5o", true}, {[]int64{5, 6}, "w0=0 r0=0o", true},
		// Marks of the write say nothing.
		{[]int64{5, 6}, "w0=7x r0=7o", true}, {[]int64{5, 6}, "w0=7o r0=7o", true}, {[]int64{5, 6}, "w0=7ox r0=5", false},
		// Own, without a write ahead of it.
		{[]int64{5, 6}, "r0=5o", false}, {[]int64{5, 6}, "r0=0o", false}, {[]int64{5, 6}, "w1=7 r0=5o", false}, {[]int64{5, 6}, "w1=7 r0=7o", false}, {[]int64{5, 6}, "r2=0o", false}, {nil, "r0=0o", false},
		// Not own, with a write ahead of it.
		{[]int64{5, 6}, "w0=7 r0=7", false}, {[]int64{5, 6}, "w0=7 r0=5", false}, {[]int64{5, 6}, "w0=5 r0=5", false}, {[]int64{5, 6}, "w0=7 w0=5 r0=5", false}, {[]int64{5, 6}, "r0=5 w0=7 r0=5", false},
		// A write of it behind it alone.
		{[]int64{5, 6}, "r0=5 w0=7", true}, {[]int64{5, 6}, "r0=7 w0=7", false}, {[]int64{5, 6}, "r0=7o w0=7", false}, {[]int64{5, 6}, "r0=5o w0=7", false}, {[]int64{5, 6}, "r0=5 w0=7 r0=7o", true},
		// Own, of an object that there isn't: the last write tells.
		{[]int64{5, 6}, "w2=7 r2=7o", true}, {[]int64{5, 6}, "w2=7 r2=8o", false}, {[]int64{5, 6}, "w2=7 r2=7", false}, {nil, "w-1=7 r-1=7o", true}, {nil, "w-1=7 r-1=0o", false}, {[]int64{5, 6}, "w2=7 r3=7o", false},
	} {
		if got := model.Fits(c.values, try(c.words)); got != c.want {
			t.Errorf("%v, %q: %v", c.values, c.words, got)
		}
		checkTry(t, c.values, try(c.words))
	}
}

// P18.2: values and objects are any numbers.
func TestFitsOfAnyNumbers(t *testing.T) {
	for _, n := range numbers() {
		for _, obj := range numbers() {
			read := hist.Access{Kind: api.EvRead, Obj: obj, Val: int64(n)}
			want := obj >= 0 && obj < 3
			if got := model.Fits([]int64{int64(n), int64(n), int64(n)}, hist.Try{Accesses: []hist.Access{read}}); got != want {
				t.Errorf("%d as %d: %v", obj, n, got)
			}
			if model.Fits([]int64{int64(n) ^ 1, int64(n) ^ 1, int64(n) ^ 1}, hist.Try{Accesses: []hist.Access{read}}) {
				t.Errorf("%d as %d: true of another value", obj, n)
			}
			own := read
			own.Own = true
			write := hist.Access{Kind: api.EvWrite, Obj: obj, Val: int64(n)}
			if !model.Fits([]int64{1, 2}, hist.Try{Accesses: []hist.Access{write, own}}) {
				t.Errorf("%d as %d: its own isn't it", obj, n)
			}
			write.Val ^= math.MinInt64
			if model.Fits([]int64{1, 2}, hist.Try{Accesses: []hist.Access{write, own}}) {
				t.Errorf("%d as %d: its own is another value", obj, n)
			}
		}
	}
}

// P18.2: accesses of other kinds than EvRead and EvWrite neither read nor write.
func TestFitsOfOtherKinds(t *testing.T) {
	for _, kind := range numbers() {
		if kind == api.EvRead || kind == api.EvWrite {
			continue
		}
		for _, c := range []struct {
			words string
			want  bool
		}{{"", true}, {"r0=5", true}, {"r0=9", false}, {"r0=9o", false}, {"w0=7 r0=7o", true}, {"w0=7 r0=9o", false}} {
			for at := range len(try(c.words).Accesses) + 1 {
				x := try(c.words)
				x.Accesses = slices.Insert(x.Accesses, at, hist.Access{Kind: kind, Val: 9}, hist.Access{Kind: kind, Val: 9, Own: true}, hist.Access{Kind: kind, Obj: 7, Val: 9, Released: true})
				if got := model.Fits([]int64{5, 6}, x); got != c.want {
					t.Errorf("the kind %d in %q at %d: %v", kind, c.words, at, got)
				}
				checkTry(t, []int64{5, 6}, x)
			}
		}
	}
}

// P18.2: what stands ahead is what stands ahead among the accesses, whatever their places; of what else is told of a try nothing is asked.
func TestFitsAsksForNothingElse(t *testing.T) {
	for _, n := range numbers() {
		for _, committed := range []bool{true, false} {
			x := hist.Try{Thread: n, Txn: n, Attempt: n, Stamp: n, Begin: n, End: n, Reason: n, Committed: committed, Accesses: []hist.Access{
				{Place: n, Kind: api.EvRead, Val: 5}, {Place: 9, Kind: api.EvWrite, Val: 7}, {Place: 8, Kind: api.EvWrite, Val: 8}, {Place: -n, Kind: api.EvRead, Val: 8, Own: true}, {Place: 1, Kind: api.EvRead, Obj: 1, Val: 6},
			}}
			if !model.Fits([]int64{5, 6}, x) {
				t.Errorf("%+v doesn't fit", x)
			}
			x.Accesses[3].Val = 7
			if model.Fits([]int64{5, 6}, x) {
				t.Errorf("%+v fits", x)
			}
		}
	}
}

// P18.1, P18.2: all tries of up to three accesses, of two objects and one that there isn't, held against the plain ones.
func TestAllShortTries(t *testing.T) {
	var each []hist.Access
	for _, obj := range []int{0, 1, -1} {
		for val := range int64(2) {
			for marks := range 4 {
				each = append(each, hist.Access{Kind: api.EvRead, Obj: obj, Val: val, Own: marks&1 > 0, Released: marks&2 > 0})
			}
			each = append(each, hist.Access{Kind: api.EvWrite, Obj: obj, Val: val})
		}
	}
	each = append(each, hist.Access{Kind: api.EvRelease})
	fit, not := 0, 0
	var on func(l []hist.Access)
	on = func(l []hist.Access) {
		for _, values := range [][]int64{{0, 1}, {1}} {
			x := hist.Try{Accesses: l}
			checkTry(t, values, x)
			if model.Fits(values, x) {
				fit++
			} else {
				not++
			}
		}
		if len(l) < 3 {
			for _, a := range each {
				on(append(slices.Clone(l), a))
			}
		}
	}
	on(nil)
	if fit < 1000 || not < 1000 {
		t.Errorf("%d fit, %d don't", fit, not)
	}
}
