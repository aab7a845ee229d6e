package opaque_test

import (
	"fmt"
	"slices"
	"strings"
	"testing"
)

// P19.2: by p; those that committed behind the others of their p; of alike ones the lesser place first.
func TestOrder(t *testing.T) {
	for _, c := range []struct {
		words     string
		ps, turns []int
	}{
		// One that committed at the same p, ahead of, between and behind others by its place.
		{"b001 b101 b201 c001 a101!1 a201!1", []int{0, 0, 0}, []int{1, 2, 0}}, {"b001 b101 b201 a001!1 c101 a201!1", []int{0, 0, 0}, []int{0, 2, 1}}, {"b001 b101 b201 a001!1 a101!1 c201", []int{0, 0, 0}, []int{0, 1, 2}},
		{"b001 b101 b201 c101", []int{0, 0, 0}, []int{0, 2, 1}}, {"b001 b101 c001", []int{0, 0}, []int{1, 0}}, {"b101 b001 c001", []int{0, 0}, []int{0, 1}},
		// Two that committed, and others at each of their p.
		{"b001 b101 b201 b301 c201 c001", []int{1, 0, 0, 0}, []int{1, 3, 2, 0}}, {"b001 b101 c101 b201 a201!1 b301 c001 b401", []int{1, 0, 1, 1, 2}, []int{1, 2, 3, 0, 4}},
		// One that reads what comes later stands behind who wrote it, though it began and ended first of all.
		{"b001 r0010=7 b101 w1010=7 c101 a001!1 b201 r2010=7 a201!1", []int{1, 0, 1}, []int{1, 0, 2}}, {"b301 b001 r0010=7 b101 w1010=7 c101 a001!1 b201 r2010=7 c201", []int{0, 1, 0, 1}, []int{0, 2, 1, 3}},
		{"b001 r0010=5 b101 r1010=7 b201 r2010=8 b301 w3010=7 c301 b311 w3110=8 c311", []int{0, 1, 2, 0, 1}, []int{0, 3, 1, 4, 2}}, {"b001 r0010=8 b101 r1010=7 b201 r2010=5 b301 w3010=7 c301 b311 w3110=8 c311", []int{2, 1, 0, 0, 1}, []int{2, 3, 1, 4, 0}},
		// Refused ones are no tries.
		{"f500!5 b001 f500!5 b101 c001 f500!5 a101!1", []int{0, 0}, []int{1, 0}},
	} {
		told(t, []int64{5}, trace(c.words), c.ps, c.turns)
		check(t, []int64{5}, trace(c.words))
	}
}

// orders are all orders of so many numbers.
func orders(n int) [][]int {
	if n == 0 {
		return [][]int{nil}
	}
	var all [][]int
	for _, l := range orders(n - 1) {
		for at := range n {
			all = append(all, slices.Insert(slices.Clone(l), at, n-1))
		}
	}
	return all
}

// P19.2, P19.3: four tries that begin one behind the other, and end in each order, each way: who didn't commit is seen at the beginning, since none of them read anything.
func TestAllOrdersOfEnds(t *testing.T) {
	ends := []string{"", " c%d01", " a%d01!1"}
	for _, l := range orders(4) {
		for ways := range 81 {
			words, way := "b001 b101 b201 b301", ways
			var plain, done []int
			for _, no := range l {
				if end := ends[way%3]; end != "" {
					words += fmt.Sprintf(end, no)
				}
				if way%3 == 1 {
					done = append(done, no)
				} else {
					plain = append(plain, no)
				}
				way /= 3
			}
			slices.Sort(plain)
			ps := make([]int, 4)
			for p, no := range done {
				ps[no] = p
			}
			told(t, []int64{5}, trace(words), ps, slices.Concat(plain, done))
			check(t, []int64{5}, trace(words))
		}
	}
}

// P19.3: tries that end ahead of others' beginnings, at the same p, stand ahead of them.
func TestOneBehindTheOther(t *testing.T) {
	var words []string
	var ps, turns []int
	for no := range 9 {
		words = append(words, fmt.Sprintf("b00%d r00%d0=5 a00%d!1", no+1, no+1, no+1))
		ps, turns = append(ps, 0), append(turns, no)
	}
	told(t, []int64{5}, trace(strings.Join(words, " ")), ps, turns)
	beginnings(t, []int64{5}, trace(strings.Join(words, " ")))
	words, ps, turns = nil, nil, nil
	for no := range 10 {
		words = append(words, fmt.Sprintf("b0%d1 r0%d10=%d w0%d10=%d c0%d1", no, no, no, no, no+1, no))
		ps, turns = append(ps, no), append(turns, no)
	}
	told(t, []int64{0}, trace(strings.Join(words, " ")), ps, turns)
	beginnings(t, []int64{0}, trace(strings.Join(words, " ")))
}
