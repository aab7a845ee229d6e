package pace_test

import (
	"math"
	"slices"
	"testing"

	"quarrel/api"
	"quarrel/pace"
)

// fill puts a number at each place of a list, and into its spare room.
func fill(l []int, no int) {
	l = l[:cap(l)]
	for at := range l {
		l[at] = no
	}
}

// several are wishes that are picked as they are, such as aren't, and such as are no thread's, of three threads.
func several() [][]int {
	return [][]int{{0, 1, 2, 0, 1, 2}, {2, 1, 0, 2}, {0, 0, 0, 0, 0}, {1}, {-1, 7, math.MinInt, math.MaxInt, 3, 3}, make([]int, 33)}
}

// P22.1, P22.2: what is handed in stays as it was, what lies behind it too.
func TestHandedIn(t *testing.T) {
	for _, l := range several() {
		room := slices.Concat(l, []int{8, 9, 8, 9})
		was := slices.Clone(room)
		for n := range 8 {
			for _, f := range []int{-1, 0, 1, 2, 3, 4, 5, 6, 7, 64, math.MaxInt} {
				pace.Longest(room[:len(l)], n)
				pace.Fair(room[:len(l)], n, f)
				pace.Make(room[:len(l)], n, f)
				if !slices.Equal(room, was) {
					t.Fatalf("%d threads, %d: handed in was %v, it is %v", n, f, was, room)
				}
			}
		}
	}
}

// P22.2: the picks are one's own, their spare room too: wishes that are changed behind it don't change them, and they don't change the wishes, or what is told later.
func TestPicksAreOnesOwn(t *testing.T) {
	for _, l := range several() {
		for _, f := range []int{3, 4, 64} {
			want := byPatience(l, 3, f)
			wishes, was := append(make([]int, 0, 50), l...), slices.Clone(l)
			picks, _ := pace.Make(wishes, 3, f)
			other, _ := pace.Make(wishes, 3, f)
			fill(picks, 99)
			if !slices.Equal(wishes, was) {
				t.Errorf("the picks were changed, and the wishes are %v, not %v", wishes, was)
			}
			if !slices.Equal(other, want) {
				t.Errorf("the picks were changed, and other ones are %v, not %v", other, want)
			}
			made(t, wishes, 3, f, want)
			fill(wishes, 98)
			if !slices.Equal(other, want) {
				t.Errorf("the wishes were changed, and the picks are %v, not %v", other, want)
			}
			made(t, l, 3, f, want)
		}
	}
}

// P22.1, P22.2: what is handed in isn't kept: changed, and handed in again, it is asked anew.
func TestNotKept(t *testing.T) {
	l := row("0101010", 2)
	longest(t, l, 2, 1)
	isFair(t, l, 2, 2, true)
	made(t, l, 2, 2, l)
	fill(l, 1)
	longest(t, l, 2, len(l))
	isFair(t, l, 2, 2, false)
	made(t, l, 2, 2, row("1010101", 2))
	l[0], l[1] = 0, 0
	longest(t, l, 2, len(l)-2)
	made(t, l, 2, 2, row("0101010", 2))
}

// P22.1, P22.2: what is told hangs on nothing that was asked ahead of it: not on other threads, other f, wishes that were refused or not picked.
func TestOneCallAndAnother(t *testing.T) {
	for seed := range 200 {
		d := dice(seed*7919 + 1)
		n, f := 1+d.to(6), 6+d.to(5)
		l := d.row(d.to(40), 0, n-1)
		ahead, e := pace.Make(l, n, f)
		wait, fair := pace.Longest(l, n), pace.Fair(l, n, f)
		for range 3 {
			between := d.row(d.to(40), -1, 7)
			pace.Make(between, d.to(8), d.to(12)-1)
			pace.Longest(between, d.to(8))
			pace.Fair(between, d.to(8), d.to(12)-1)
		}
		if e != api.OK {
			t.Fatalf("Make of %v, %d threads, %d: error %d", l, n, f, e)
		}
		made(t, l, n, f, ahead)
		longest(t, l, n, wait)
		isFair(t, l, n, f, fair)
	}
}
