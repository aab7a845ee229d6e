package pace_test

import (
	"math"
	"slices"
	"testing"

	"quarrel/api"
	"quarrel/pace"
)

// P22.2: the chapter's example.
func TestExample(t *testing.T) {
	made(t, []int{0, 0, 0, 0}, 2, 2, []int{0, 1, 0, 1})
}

// P22.2: the wish, as long as all others can still wait behind it; else the thread of the least patience, of the least number among alike ones.
func TestMake(t *testing.T) {
	for _, c := range []struct {
		wishes string
		n, f   int
		want   string
	}{
		// One wish, and a few.
		{"0", 1, 1, "0"}, {"0", 2, 2, "0"}, {"1", 2, 2, "1"}, {"5", 6, 6, "5"}, {"0000", 1, 1, "0000"}, {"1111", 2, 2, "1010"}, {"0110", 2, 2, "0101"}, {"1001", 2, 2, "1010"}, {"0101", 2, 2, "0101"},
		{"000000", 2, 3, "001001"}, {"001000", 2, 3, "001001"}, {"010110", 2, 3, "010110"}, {"111111", 2, 3, "110110"}, {"000000", 2, 4, "000100"}, {"000010", 2, 4, "000110"},
		{"000000", 3, 3, "012012"}, {"222222", 3, 3, "201201"}, {"210000", 3, 3, "210210"}, {"001122", 3, 3, "012012"},
		{"00000000", 3, 4, "00120012"}, {"1111", 3, 4, "1102"}, {"010101", 3, 4, "010201"}, {"0011", 3, 4, "0012"}, {"0022", 3, 4, "0021"},
		// The least patience isn't that of the least number.
		{"21000", 3, 4, "21002"}, {"210000", 3, 4, "210021"}, {"2100", 3, 3, "2102"}, {"543210000000", 6, 6, "543210543210"}, {"1000", 2, 3, "1001"},
		// Patience is alike: the least number goes first, whoever was wished for.
		{"3333", 4, 4, "3012"}, {"222222", 6, 6, "201345"}, {"55555", 6, 6, "50123"}, {"1333", 4, 4, "1302"}, {"333000", 4, 5, "330120"},
		// The last pick at which all others can still wait, and the next one: two others, of whom one waited.
		{"0200", 3, 4, "0201"}, {"0210", 3, 4, "0210"}, {"00020", 3, 5, "00021"}, {"00010", 3, 5, "00012"}, {"01000", 3, 5, "01002"}, {"0100000", 3, 5, "0100201"}, {"0100", 3, 5, "0100"},
		// Wishes modulo n; of those below 0 it is 0.
		{"3", 2, 2, "1"}, {"4", 3, 3, "1"}, {"n", 5, 5, "0"}, {"7", 6, 6, "1"}, {"9876", 4, 9, "1032"}, {"<><9", 2, 9, "0101"}, {"1<", 3, 9, "10"}, {"<<<", 3, 3, "012"}, {">>>", 2, 2, "101"}, {"789", 1, 1, "000"}, {"n", 1, 1, "0"}, {"nn1n", 6, 9, "0010"},
	} {
		made(t, row(c.wishes, c.n), c.n, c.f, row(c.want, c.n))
	}
}

// P22.2: of no wishes, nil and empty, no picks are made; OK, if n and f may be, else ErrRange.
func TestNoWishes(t *testing.T) {
	for _, n := range numbers() {
		for _, f := range numbers() {
			for _, wishes := range [][]int{nil, {}, row("12", 1)[:0]} {
				if n >= 1 && n <= 6 && f >= n {
					made(t, wishes, n, f, nil)
				} else {
					refused(t, wishes, n, f)
				}
			}
		}
	}
}

// P22.2: none, ErrRange, if there can't be so many threads, whatever f is; or if f is below n: just below, 0, below 0, and the ends of what an int can be.
func TestRefused(t *testing.T) {
	for _, wishes := range [][]int{{0}, {0, 1, 2, 3, 4, 5, 6}, {-1, math.MinInt, math.MaxInt}, make([]int, 100)} {
		for _, n := range noThreads() {
			for _, f := range append(numbers(), n-1, n, n+1) {
				refused(t, wishes, n, f)
			}
		}
		for n := 1; n <= 6; n++ {
			for f := -2; f < n; f++ {
				refused(t, wishes, n, f)
			}
			for _, f := range numbers() {
				if f < n {
					refused(t, wishes, n, f)
				} else {
					makes(t, wishes, n, f)
				}
			}
		}
	}
}

// P22.2: whatever the wish is, alone it is picked modulo n, below 0 it is 0; just at the least f, and at others.
func TestOneWish(t *testing.T) {
	for n := 1; n <= 6; n++ {
		for _, wish := range numbers() {
			want := 0
			for no := range n {
				if wish >= 0 && (wish-no)%n == 0 {
					want = no
				}
			}
			for _, f := range []int{n, n + 1, n + 2, 64, math.MaxInt - 1, math.MaxInt} {
				made(t, []int{wish}, n, f, []int{want})
				// Each thread can be wished for behind it, but at the least f the one that was picked.
				for no := range n {
					then := no
					switch {
					case no == want && n > 1 && f == n && want == 0:
						then = 1
					case no == want && n > 1 && f == n:
						then = 0
					}
					made(t, []int{wish, no}, n, f, []int{want, then})
				}
			}
		}
	}
}

// again are picks of one and the same wish: that one as often as all others can still wait, and then each of those, by their numbers, and so on.
func again(wish, n, f, length int) []int {
	var picks []int
	for len(picks) < length {
		picks = append(picks, slices.Repeat([]int{wish}, f-n+1)...)
		for no := range n {
			if no != wish {
				picks = append(picks, no)
			}
		}
	}
	return picks[:length]
}

// P22.2: one and the same wish over and over, of each thread, at f just n, one more, and others: it is picked up to the last pick at which all others can still wait, and not at the next one.
func TestOneAndTheSameWish(t *testing.T) {
	for n := 1; n <= 6; n++ {
		for wish := range n {
			for f := n; f < n+9; f++ {
				want := again(wish, n, f, 50)
				for end := range 50 {
					made(t, slices.Repeat([]int{wish}, end), n, f, want[:end])
				}
			}
			for _, f := range []int{63, 64, 65, 200, 201} {
				made(t, slices.Repeat([]int{wish}, 200), n, f, again(wish, n, f, 200))
			}
		}
		for _, below := range []int{-1, -n, -n - 1, math.MinInt32, math.MinInt + 1, math.MinInt} {
			made(t, slices.Repeat([]int{below}, 50), n, n+2, again(0, n, n+2, 50))
		}
		for wish := n; wish < 3*n; wish++ {
			made(t, slices.Repeat([]int{wish}, 50), n, n+2, again(wish%n, n, n+2, 50))
		}
		made(t, slices.Repeat([]int{math.MaxInt}, 50), n, n+2, again(math.MaxInt%n, n, n+2, 50))
	}
}

// P22.2: at f just n all come in turn, in the order in which they are picked first.
func TestTheLeastF(t *testing.T) {
	for seed := range 200 {
		d := dice(seed*7919 + 1)
		n := 1 + seed%6
		picks := makes(t, d.row(60, -1, n+2), n, n)
		for at := range picks {
			if at >= n && picks[at] != picks[at-n] {
				t.Fatalf("%v, of %d threads: not all in turn", picks, n)
			}
		}
	}
}

// P22.2: at an f that the wishes don't reach all of them are picked: the greatest int, too, and its least patience doesn't go round.
func TestGreatF(t *testing.T) {
	for seed := range 60 {
		d := dice(seed*7919 + 1)
		n := 1 + seed%6
		wishes := d.row(100, -1, n+2)
		var want []int
		for _, wish := range wishes {
			want = append(want, wished(wish, n))
		}
		for _, f := range []int{100 + n - 1, 100 + n, math.MaxInt32, 1 << 32, math.MaxInt - 1, math.MaxInt} {
			made(t, wishes, n, f, want)
		}
	}
	// One pick fewer is too few for all others behind the wishes.
	for n := 2; n <= 6; n++ {
		wishes := make([]int, 100)
		made(t, wishes, n, 100+n-1, wishes)
		if picks := makes(t, wishes, n, 100+n-2); picks[99] != 1 {
			t.Errorf("%d threads: the last pick is %d", n, picks[99])
		}
	}
}

// P22.2: very many wishes, in time.
func TestVeryManyWishes(t *testing.T) {
	const many = 1 << 18
	for n := 1; n <= 6; n++ {
		for _, f := range []int{n, n + 3, 1000, many, math.MaxInt} {
			picks, e := pace.Make(slices.Repeat([]int{n - 1}, many), n, f)
			if e != api.OK || !slices.Equal(picks, again(n-1, n, min(f, 2*many), many)) {
				t.Errorf("%d wishes of %d threads, %d: %d picks, error %d", many, n, f, len(picks), e)
			}
			if longest := pace.Longest(picks, n); longest >= f {
				t.Errorf("%d wishes of %d threads, %d: the longest wait is %d", many, n, f, longest)
			}
		}
	}
}
