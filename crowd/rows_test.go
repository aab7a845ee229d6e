package crowd_test

import (
	"fmt"
	"slices"
	"testing"

	"quarrel/api"
)

// dice are numbers that look as if they were thrown.
type dice uint32

// to is one from 0 to one below n.
func (d *dice) to(n int) int {
	*d = *d*1664525 + 1013904223
	return int(*d>>8) % n
}

// transaction is one that is thrown, without releases.
func (d *dice) transaction(objects int) []api.Op {
	kinds := []int{api.Read, api.Read, api.Write, api.Write, api.Add, api.Set}
	var l []api.Op
	for range 1 + d.to(api.MaxOps) {
		o := api.Op{Kind: kinds[d.to(len(kinds))]}
		if o.Kind == api.Set || o.Kind == api.Add {
			o.Arg = int64(d.to(256) - 128)
		} else {
			o.Obj = d.to(objects)
		}
		l = append(l, o)
	}
	return l
}

// laid is what a crowd is made of that is thrown, with records and tickets enough, or with too few.
func (d *dice) laid(few bool) laid {
	l := laid{c: api.Config{Objects: 1 + d.to(3), Threads: 1 + d.to(6), Records: 4096, Tickets: 36, Manager: 1 + d.to(4), Wait: 1 + d.to(8)}}
	if few {
		l.c.Records, l.c.Tickets = 2*l.c.Objects+d.to(60), d.to(12)
	}
	for range l.c.Objects {
		l.first = append(l.first, int64(d.to(200)-100))
	}
	for range d.to(5) {
		l.draws = append(l.draws, byte(d.to(256)))
	}
	for range l.c.Threads {
		var txns [][]api.Op
		for range d.to(5) {
			txns = append(txns, d.transaction(l.c.Objects))
		}
		l.all = append(l.all, txns)
	}
	return l
}

// picks are as many as is asked for: threads at random, now and then one of them for long, or one that there isn't.
func (d *dice) picks(threads, n int) []int {
	var l []int
	for len(l) < n {
		no, times := d.to(threads), 1
		switch d.to(12) {
		case 0:
			times = 1 + d.to(40)
		case 1:
			no = []int{-1, threads, 255}[d.to(3)]
		}
		for range times {
			l = append(l, no)
		}
	}
	return l[:n]
}

// P16.2, P16.3: long rows of picks, rows and rounds, held against threads on a floor of which no crowd knows, step by step; now and then an attempt is aborted from outside.
func TestAgainstPlainThreads(t *testing.T) {
	for seed := range 300 {
		d := dice(seed*7919 + 3)
		l := d.laid(seed%3 == 0)
		s := l.crowd(t)
		f, plain := l.floor(t)
		step := func(picks ...int) int {
			n := 0
			for _, no := range picks {
				if no >= 0 && no < len(plain) && plain[no].Step() {
					n++
				}
			}
			return n
		}
		var each []int
		for no := range l.c.Threads {
			each = append(each, no)
		}
		for n := range 300 {
			var made, want int
			switch d.to(8) {
			case 0:
				row := d.picks(l.c.Threads, d.to(30))
				made, want = s.Run(row...), step(row...)
			case 1:
				rounds := d.to(6)
				made, want = s.Rounds(rounds), step(slices.Repeat(each, rounds)...)
			default:
				no := d.picks(l.c.Threads, 1)[0]
				if s.Pick(no) {
					made = 1
				}
				want = step(no)
			}
			if made != want {
				t.Fatalf("the seed %d, the call %d: %d steps, not %d", seed, n, made, want)
			}
			var steps, commits int
			var unfinished []int
			for no, a := range plain {
				steps, commits = steps+a.Steps(), commits+a.Commits()
				if !a.Done() {
					unfinished = append(unfinished, no)
				}
			}
			if s.at(steps, commits, unfinished...); t.Failed() {
				t.Fatalf("the seed %d, the call %d", seed, n)
			}
			// To put all in words takes long: of most calls what was told is enough.
			if n%23 == 0 || n < 20 {
				if got, want := told(s.Floor(), s.threads()), told(f, plain); got != want {
					t.Fatalf("the seed %d, %+v, the call %d:\n%s\nnot\n%s", seed, l, n, got, want)
				}
			}
			if at := d.to(60 * s.Floor().Arena().Len()); at < s.Floor().Arena().Len() {
				s.Floor().Table().Turn(at, api.Aborted)
				f.Table().Turn(at, api.Aborted)
			}
			if len(unfinished) == 0 {
				break
			}
		}
		if got, want := told(s.Floor(), s.threads()), told(f, plain); got != want {
			t.Fatalf("the seed %d, %+v, behind all:\n%s\nnot\n%s", seed, l, got, want)
		}
	}
}

// P16.2: the same picks do the same: two crowds of the same are alike at any moment.
func TestTheSameAgain(t *testing.T) {
	for seed := range 60 {
		d := dice(seed*4409 + 9)
		l := d.laid(seed%3 == 0)
		row := d.picks(l.c.Threads, 400)
		s, other := l.crowd(t), l.crowd(t)
		s.Run(row[:150]...)
		other.Run(row[:150]...)
		s.same(other.told(), fmt.Sprintf("the seed %d", seed))
		s.Run(row[150:]...)
		other.Run(row[150:]...)
		s.same(other.told(), fmt.Sprintf("the seed %d, at the end", seed))
	}
}

// P16.2, P16.3: whatever is picked, the values are at any moment what those that committed make of the first ones, one behind the other; each transaction commits once at most, and its thread's number is that of the pick.
func TestCommittedInOrder(t *testing.T) {
	for seed := range 300 {
		d := dice(seed*104729 + 11)
		few := seed%3 == 0
		l := d.laid(few)
		s := l.crowd(t)
		for _, no := range d.picks(l.c.Threads, 50+d.to(500)) {
			noted := len(s.Floor().Trace())
			s.Pick(no)
			for _, e := range s.Floor().Trace()[noted:] {
				if e.Thread != no {
					t.Fatalf("the seed %d: a pick of %d noted %+v", seed, no, e)
				}
				if e.Kind == api.EvCommit {
					s.inOrder(l)
				}
			}
		}
		s.inOrder(l)
		s.end()
		s.inOrder(l)
		type at struct{ thread, txn int }
		committed, all := map[at]int{}, 0
		for _, e := range s.Floor().Trace() {
			if e.Kind == api.EvCommit {
				committed[at{e.Thread, e.Txn}]++
			}
		}
		for no, txns := range l.all {
			all += len(txns)
			for txn := range txns {
				if n := committed[at{no, txn}]; n > 1 || n == 0 && !few {
					t.Fatalf("the seed %d, %+v: the transaction %d of %d committed %d times", seed, l.c, txn, no, n)
				}
			}
		}
		if s.Commits() != len(committed) || !few && s.Commits() != all {
			t.Fatalf("the seed %d: Commits: %d, not %d of %d", seed, s.Commits(), len(committed), all)
		}
	}
}
