package pace_test

import (
	"math"
	"slices"
	"strings"
	"testing"

	"quarrel/api"
	"quarrel/pace"
)

// numbers are ordinary ones, and the ends of what an int can be.
func numbers() []int {
	return []int{0, 1, 2, 3, 4, 5, 6, 7, 8, 63, 64, 65, 255, 256, math.MaxInt32, 1 << 32, 1<<32 + 1, math.MaxInt - 1, math.MaxInt, -1, -2, -6, -255, math.MinInt32, -1 << 32, -1<<32 + 1, math.MinInt + 1, math.MinInt}
}

// noThreads are how many threads there can't be.
func noThreads() []int {
	return slices.DeleteFunc(numbers(), func(n int) bool { return n >= 1 && n <= 6 })
}

// row is one of numbers from 0 to 9, by its digits; n is just the number of threads, < is -1, and > the greatest int.
func row(word string, n int) []int {
	var l []int
	for _, c := range word {
		switch c {
		case 'n':
			l = append(l, n)
		case '<':
			l = append(l, -1)
		case '>':
			l = append(l, math.MaxInt)
		case ' ':
		default:
			l = append(l, int(c-'0'))
		}
	}
	return l
}

// word is a row's word.
func word(l []int) string {
	var b strings.Builder
	for _, no := range l {
		b.WriteByte(byte('0' + no))
	}
	return b.String()
}

// dice are numbers that look as if they were thrown.
type dice uint32

// to is one from 0 to one below n.
func (d *dice) to(n int) int {
	*d = *d*1664525 + 1013904223
	return int(*d>>8) % n
}

// row is one of so many numbers, each one from from to to, now and then one of numbers; the same one comes a few times, now and then.
func (d *dice) row(length, from, to int) []int {
	var l []int
	for len(l) < length {
		no := from + d.to(to-from+1)
		if d.to(20) == 0 {
			no = numbers()[d.to(len(numbers()))]
		}
		times := 1
		if d.to(3) == 0 {
			times += d.to(12)
		}
		l = append(l, slices.Repeat([]int{no}, min(times, length-len(l)))...)
	}
	return l
}

// rows are all rows of up to so many numbers, each from from to to.
func rows(length, from, to int) [][]int {
	all := [][]int{nil}
	for at := 0; len(all[at]) < length; at++ {
		for no := from; no <= to; no++ {
			all = append(all, append(slices.Clone(all[at]), no))
		}
	}
	return all
}

// orders are all orders of the numbers below n.
func orders(n int) [][]int {
	if n == 0 {
		return [][]int{nil}
	}
	var all [][]int
	for _, l := range orders(n - 1) {
		for at := range n {
			all = append(all, slices.Insert(slices.Clone(l), at, n-1))
		}
	}
	return all
}

// wait is the longest wait of a plain kind: of all picks one behind the other, and of each thread, it is asked whether they name it.
func wait(picks []int, n int) int {
	longest := 0
	for from := range picks {
		for to := from + 1; to <= len(picks); to++ {
			for no := range n {
				if !slices.Contains(picks[from:to], no) {
					longest = max(longest, to-from)
				}
			}
		}
	}
	return longest
}

// fair says whether each f picks one behind the other name each thread.
func fair(picks []int, n, f int) bool {
	for from := 0; f <= len(picks)-from; from++ {
		for no := range n {
			if !slices.Contains(picks[from:from+f], no) {
				return false
			}
		}
	}
	return true
}

// goesOn says whether picks are f-fair, and go on to be so: behind these each thread can come once, in some order, and then each again in that order, for ever.
func goesOn(picks []int, n, f int, turns [][]int) bool {
	return slices.ContainsFunc(turns, func(turn []int) bool {
		return pace.Longest(slices.Concat(picks, turn), n) < f
	})
}

// waited is how many of the last picks don't name a thread.
func waited(picks []int, no int) int {
	for at, other := range slices.Backward(picks) {
		if other == no {
			return len(picks) - 1 - at
		}
	}
	return len(picks)
}

// first is the first of threads that have waited longest: their patience is alike, and the least.
func first(picks []int, n int) int {
	who := 0
	for no := range n {
		if waited(picks, no) > waited(picks, who) {
			who = no
		}
	}
	return who
}

// wished is the thread that a wish is for.
func wished(wish, n int) int {
	if wish < 0 {
		return 0
	}
	return wish % n
}

// onward is what is made of wishes, pick by pick: the wish, if the picks go on to be f-fair behind it.
func onward(wishes []int, n, f int, turns [][]int) []int {
	var picks []int
	for _, wish := range wishes {
		no := wished(wish, n)
		if !goesOn(append(slices.Clip(picks), no), n, f, turns) {
			no = first(picks, n)
		}
		picks = append(picks, no)
	}
	return picks
}

// byPatience is what is made of wishes by the chapter's words: each one's patience is counted.
func byPatience(wishes []int, n, f int) []int {
	patience := slices.Repeat([]int{f - 1}, n)
	var picks []int
	for _, wish := range wishes {
		no := wished(wish, n)
		var others []int
		for other, p := range patience {
			if other != no {
				others = append(others, p-1)
			}
		}
		slices.Sort(others)
		for k, p := range others {
			if p < k {
				no = slices.Index(patience, slices.Min(patience))
			}
		}
		for other := range patience {
			patience[other]--
		}
		patience[no] = f - 1
		picks = append(picks, no)
	}
	return picks
}

// longest asks picks for the longest wait, and holds what was handed in against what it was.
func longest(t *testing.T, picks []int, n, want int) {
	t.Helper()
	was := slices.Clone(picks)
	if got := pace.Longest(picks, n); got != want {
		t.Fatalf("Longest of %v, %d threads: %d, not %d", picks, n, got, want)
	}
	if !slices.Equal(picks, was) {
		t.Fatalf("Longest made %v of %v", picks, was)
	}
}

// isFair asks picks for being f-fair, and holds what was handed in against what it was.
func isFair(t *testing.T, picks []int, n, f int, want bool) {
	t.Helper()
	was := slices.Clone(picks)
	if got := pace.Fair(picks, n, f); got != want {
		t.Fatalf("Fair of %v, %d threads, %d: %v, not %v", picks, n, f, got, want)
	}
	if !slices.Equal(picks, was) {
		t.Fatalf("Fair made %v of %v", picks, was)
	}
}

// makes are the picks made of wishes, asked for what is promised of all such: they are as many as the wishes, each is a thread's, they are f-fair, and made anew they stay as they are.
func makes(t *testing.T, wishes []int, n, f int) []int {
	t.Helper()
	was := slices.Clone(wishes)
	picks, e := pace.Make(wishes, n, f)
	if e != api.OK || len(picks) != len(wishes) {
		t.Fatalf("Make of %v, %d threads, %d: %v, error %d", wishes, n, f, picks, e)
	}
	if !slices.Equal(wishes, was) {
		t.Fatalf("Make made %v of %v", wishes, was)
	}
	if slices.ContainsFunc(picks, func(no int) bool { return no < 0 || no >= n }) {
		t.Fatalf("Make of %v, %d threads, %d: %v", wishes, n, f, picks)
	}
	if !pace.Fair(picks, n, f) {
		t.Fatalf("Make of %v, %d threads, %d: %v isn't fair", wishes, n, f, picks)
	}
	again, e := pace.Make(picks, n, f)
	if e != api.OK || !slices.Equal(again, picks) {
		t.Fatalf("Make of %v, %d threads, %d: %v, which is made %v, error %d", wishes, n, f, picks, again, e)
	}
	return picks
}

// made asks wishes for these picks.
func made(t *testing.T, wishes []int, n, f int, want []int) {
	t.Helper()
	if picks := makes(t, wishes, n, f); !slices.Equal(picks, want) {
		t.Fatalf("Make of %v, %d threads, %d: %v, not %v", wishes, n, f, picks, want)
	}
}

// refused asks wishes for no picks, and ErrRange.
func refused(t *testing.T, wishes []int, n, f int) {
	t.Helper()
	was := slices.Clone(wishes)
	if picks, e := pace.Make(wishes, n, f); len(picks) != 0 || e != api.ErrRange {
		t.Fatalf("Make of %v, %d threads, %d: %v, error %d", wishes, n, f, picks, e)
	}
	if !slices.Equal(wishes, was) {
		t.Fatalf("Make made %v of %v", wishes, was)
	}
}
