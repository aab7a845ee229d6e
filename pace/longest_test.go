package pace_test

import (
	"math"
	"slices"
	"testing"
)

// waiting is picks by their word, of so many threads, and their longest wait.
type waiting struct {
	word    string
	n, want int
}

// waits are ordinary ones, and edges.
func waits() []waiting {
	return []waiting{
		// One pick, and a few.
		{"0", 1, 0}, {"0", 2, 1}, {"1", 2, 1}, {"0", 6, 1}, {"5", 6, 1}, {"01", 2, 1}, {"00", 2, 2}, {"012", 3, 2}, {"0123", 4, 3}, {"01234", 5, 4}, {"012345", 6, 5}, {"0000000", 1, 0},
		// At the beginning, in the middle and at the end.
		{"0001", 2, 3}, {"1000", 2, 3}, {"10001", 2, 3}, {"1110", 2, 3}, {"0111", 2, 3}, {"01110", 2, 3}, {"00010101", 2, 3}, {"10101000", 2, 3}, {"01010001010", 2, 3},
		{"00012", 3, 4}, {"12000", 3, 4}, {"120021", 3, 4}, {"021120", 3, 4}, {"0123455432100", 6, 10},
		// The one at the beginning is the longest, the one in the middle, the one at the end.
		{"000010001001", 2, 4}, {"001000010001", 2, 4}, {"001000100001", 2, 4}, {"0100010000", 2, 4}, {"01000010", 2, 4}, {"0000100010", 2, 4},
		// All take turns.
		{"01010101", 2, 1}, {"012012012", 3, 2}, {"0123401234", 5, 4}, {"0110", 2, 2}, {"012345543210", 6, 10}, {"543210543210", 6, 5},
		// A thread that is never named.
		{"010101", 3, 6}, {"020202", 3, 6}, {"121212", 3, 6}, {"0123401234", 6, 10}, {"1234512345", 6, 10}, {"01235", 6, 5}, {"1111", 2, 4}, {"0000", 2, 4},
		// Picks that name nobody.
		{"n", 1, 1}, {"<", 1, 1}, {">", 1, 1}, {"0n0", 1, 1}, {"0<<0", 1, 2}, {"n0", 1, 1}, {"0n", 1, 1}, {"nnn", 6, 3}, {"<<", 6, 2}, {"0n1<", 2, 3}, {"01n01", 2, 2}, {"01<01", 2, 2}, {"01>01", 2, 2}, {"n01n", 2, 2}, {"0n<>1", 2, 4}, {"012n<012", 3, 4}, {"0123n45", 6, 6}, {"0101", 1, 1}, {"0110", 1, 2}, {"9090", 1, 1},
	}
}

// P22.1: the longest wait, at the beginning, in the middle and at the end, of threads that are named, and of those that aren't.
func TestLongest(t *testing.T) {
	for _, c := range waits() {
		picks := row(c.word, c.n)
		if plain := wait(picks, c.n); plain != c.want {
			t.Errorf("the plain longest wait of %q, %d threads: %d, not %d", c.word, c.n, plain, c.want)
		}
		longest(t, picks, c.n, c.want)
	}
}

// P22.1: of no picks, nil and empty, nobody waits, and they are f-fair.
func TestNoPicks(t *testing.T) {
	for _, n := range numbers() {
		for _, picks := range [][]int{nil, {}, row("12", 1)[:0]} {
			longest(t, picks, n, 0)
			for _, f := range numbers() {
				isFair(t, picks, n, f, n >= 1 && n <= 6 && f >= 1)
			}
		}
	}
}

// P22.1: where there can't be so many threads, the longest wait is 0, and no picks are fair.
func TestNoThreads(t *testing.T) {
	for _, n := range noThreads() {
		for _, picks := range [][]int{{0}, {0, 0, 0}, {0, 1, 2, 3, 4, 5, 6}, {-1}, {n}, {math.MinInt, math.MaxInt, 7, 6}, make([]int, 100)} {
			longest(t, picks, n, 0)
			for _, f := range numbers() {
				isFair(t, picks, n, f, false)
			}
		}
	}
}

// P22.1: a number names just the thread of that number, of each n from 1 to 6; all others name nobody.
func TestWhoIsNamed(t *testing.T) {
	for n := 1; n <= 6; n++ {
		for out := range n {
			var others []int
			for no := range n {
				if no != out {
					others = append(others, no)
				}
			}
			around := slices.Concat(others, others)
			for _, no := range append(numbers(), out) {
				want := 4*(n-1) + 1
				if no == out {
					want = 2 * (n - 1)
				}
				picks := slices.Concat(around, []int{no}, around)
				longest(t, picks, n, want)
				isFair(t, picks, n, want, false)
				isFair(t, picks, n, want+1, true)
			}
		}
	}
}

// P22.1: f-fair by the words: each f picks one behind the other name each thread, at each f around the longest wait, and f of 0 and below, and the ends of what an int can be.
func TestFair(t *testing.T) {
	for _, c := range waits() {
		picks := row(c.word, c.n)
		for f := 1; f < len(picks)+3; f++ {
			isFair(t, picks, c.n, f, fair(picks, c.n, f))
			isFair(t, picks, c.n, f, f > c.want)
		}
		for _, f := range numbers() {
			isFair(t, picks, c.n, f, f > c.want && f >= 1)
		}
	}
}

// P22.1: f 1 asks of each pick that it names each thread: just one thread's can.
func TestEachPick(t *testing.T) {
	isFair(t, row("0000", 1), 1, 1, true)
	isFair(t, row("000n", 1), 1, 1, false)
	isFair(t, row("n000", 1), 1, 1, false)
	isFair(t, row("00<00", 1), 1, 1, false)
	for n := 2; n <= 6; n++ {
		isFair(t, row("0", n), n, 1, false)
		isFair(t, row("010101", n), n, 1, false)
	}
}

// P22.1: fewer picks than f are f-fair whatever they name; just f, and one more, are, if they name each thread.
func TestFewPicks(t *testing.T) {
	for n := 1; n <= 6; n++ {
		for f := 1; f < 12; f++ {
			for _, no := range []int{0, n - 1, n, -1, math.MinInt, math.MaxInt} {
				is := n == 1 && no == 0
				isFair(t, slices.Repeat([]int{no}, f-1), n, f, true)
				isFair(t, slices.Repeat([]int{no}, f), n, f, is)
				isFair(t, slices.Repeat([]int{no}, f+1), n, f, is)
			}
			var turns []int
			for at := range f + 1 {
				turns = append(turns, at%n)
			}
			isFair(t, turns[:f-1], n, f, true)
			isFair(t, turns[:f], n, f, f >= n)
			isFair(t, turns, n, f, f >= n)
			if f >= n {
				// The last of them names nobody any more: just f of them, from the second one on, name the thread 0 only if it came again.
				turns[f] = n
				isFair(t, turns, n, f, f > n)
			}
		}
	}
}

// P22.1, P22.3: all rows of up to seven picks, nobody's among them, of one to three threads, held against plain ones.
func TestAllPicks(t *testing.T) {
	for n := 1; n <= 3; n++ {
		for _, picks := range rows(9-n, -1, n) {
			want := wait(picks, n)
			longest(t, picks, n, want)
			for f := -1; f < len(picks)+3; f++ {
				isFair(t, picks, n, f, f >= 1 && fair(picks, n, f))
				isFair(t, picks, n, f, f >= 1 && (len(picks) < f || want < f))
			}
		}
	}
}

// P22.1, P22.3: thrown picks of each n, with one and the same a few times, and with such as name nobody, held against plain ones; and what Fair says is what Longest says.
func TestThrownPicks(t *testing.T) {
	for seed := range 600 {
		d := dice(seed*7919 + 1)
		n := 1 + seed%6
		picks := d.row(d.to(60), -d.to(2), n-1+d.to(2))
		want := wait(picks, n)
		longest(t, picks, n, want)
		for f := want - 2; f <= want+3; f++ {
			isFair(t, picks, n, f, f >= 1 && fair(picks, n, f))
			isFair(t, picks, n, f, f >= 1 && f > want)
		}
		for _, f := range numbers() {
			isFair(t, picks, n, f, f >= 1 && f > want)
		}
	}
}

// P22.1: very many picks, in time, with a long wait of all of them at the beginning, in the middle and at the end.
func TestVeryManyPicks(t *testing.T) {
	const many = 1 << 20
	for n := 1; n <= 6; n++ {
		var picks []int
		for at := range many {
			picks = append(picks, at%n)
		}
		longest(t, picks, n, n-1)
		isFair(t, picks, n, n, true)
		for _, at := range []int{0, many / 3, many} {
			longest(t, slices.Insert(slices.Clone(picks), at, slices.Repeat([]int{n}, many)...), n, many+n-1)
		}
	}
}
