package thread_test

import (
	"fmt"
	"slices"
	"testing"

	"quarrel/api"
	"quarrel/floor"
	"quarrel/gate"
	"quarrel/thread"
)

// dice are numbers that look as if they were thrown.
type dice uint32

// to is one from 0 to one below n.
func (d *dice) to(n int) int {
	*d = *d*1664525 + 1013904223
	return int(*d>>8) % n
}

// transaction is one that is thrown, with releases or without.
func (d *dice) transaction(objects int, releases bool) []api.Op {
	kinds := []int{api.Read, api.Read, api.Write, api.Write, api.Add, api.Set, api.Release}
	if !releases {
		kinds = kinds[:6]
	}
	var l []api.Op
	for range 1 + d.to(api.MaxOps) {
		o := api.Op{Kind: kinds[d.to(len(kinds))]}
		if o.Kind == api.Set || o.Kind == api.Add {
			o.Arg = int64(d.to(256) - 128)
		} else {
			o.Obj = d.to(objects)
		}
		l = append(l, o)
	}
	return l
}

// laid is a config, and what there is beside it.
type laid struct {
	c     api.Config
	first []int64
	draws []byte
	all   [][][]api.Op
}

// laid is one that is thrown, with records and tickets enough, or with too few.
func (d *dice) laid(releases, few bool) laid {
	l := laid{c: api.Config{Objects: 1 + d.to(3), Threads: 1 + d.to(4), Records: 4096, Tickets: 24, Manager: 1 + d.to(4), Wait: 1 + d.to(8)}}
	if few {
		l.c.Records, l.c.Tickets = 2*l.c.Objects+d.to(60), d.to(12)
	}
	for range l.c.Objects {
		l.first = append(l.first, int64(d.to(200)-100))
	}
	for range d.to(5) {
		l.draws = append(l.draws, byte(d.to(256)))
	}
	for range l.c.Threads {
		var all [][]api.Op
		for range d.to(5) {
			all = append(all, d.transaction(l.c.Objects, releases))
		}
		l.all = append(l.all, all)
	}
	return l
}

// picks are as many as is asked for: threads at random, now and then one of them for long.
func (d *dice) picks(threads, n int) []int {
	var l []int
	for len(l) < n {
		thread, times := d.to(threads), 1
		if d.to(10) == 0 {
			times = 1 + d.to(40)
		}
		for range times {
			l = append(l, thread)
		}
	}
	return l
}

// scene is a floor of it.
func (l laid) scene(t *testing.T) *scene {
	t.Helper()
	f, e := floor.New(l.c, l.first, l.draws)
	if e != api.OK {
		t.Fatalf("a floor: error %d", e)
	}
	return &scene{t, f}
}

// threads are all of it, on a floor of their own.
func (l laid) threads(t *testing.T) []*actor {
	t.Helper()
	s := l.scene(t)
	var all []*actor
	for no := range l.c.Threads {
		a, e := thread.New(s.Floor, no, l.all[no])
		if e != api.OK {
			t.Fatalf("New: error %d", e)
		}
		all = append(all, &actor{s, a, no})
	}
	return all
}

// done says whether all are.
func done(l []*actor) bool {
	return !slices.ContainsFunc(l, func(a *actor) bool { return !a.Done() })
}

// strike turns the newest descriptor of a thread to Aborted, if it is Active.
func (s *scene) strike(no int) {
	for at := s.Arena().Len() - 1; at >= 0; at-- {
		if r, _ := s.Arena().At(at); r.Kind == api.Descriptor && r.Thread == no {
			s.Table().Turn(at, api.Aborted)
			return
		}
	}
}

// P15.2: long rows of picks of many threads, each step held against what the chapter says; now and then somebody is aborted from outside, or takes a ticket.
func TestAgainstTheModel(t *testing.T) {
	for seed := range 500 {
		d := dice(seed*7919 + 3)
		l := d.laid(true, seed%3 == 0)
		got, other := l.threads(t), l.scene(t)
		var want []*model
		for no := range l.c.Threads {
			m := modelOf(other.Floor, no, l.all[no])
			defer m.stop()
			want = append(want, m)
		}
		for n, p := range d.picks(l.c.Threads, 1500) {
			a, m := got[p], want[p]
			if x, y := a.Step(), m.Step(); x != y {
				t.Fatalf("the seed %d, the pick %d of %d: Step: %v, not %v", seed, n, p, x, y)
			}
			x := []int{a.Txn(), a.Try(), a.Commits(), a.Steps()}
			y := []int{m.txn, m.try, m.commits, m.steps}
			if !slices.Equal(x, y) || a.Done() != m.Done() {
				t.Fatalf("the seed %d, the pick %d of %d: %v, %v, not %v, %v", seed, n, p, x, a.Done(), y, m.Done())
			}
			// To put all in words takes long: of most steps what was told is enough.
			if n%19 == 0 || n < 60 {
				a.same(other, fmt.Sprintf("the seed %d, %+v, the pick %d of %d", seed, l, n, p))
			}
			switch d.to(120) {
			case 0, 1:
				no := d.to(l.c.Threads)
				a.strike(no)
				other.strike(no)
			case 2:
				a.Tickets().Take()
				other.Tickets().Take()
			}
			if done(got) {
				break
			}
		}
		got[0].same(other, fmt.Sprintf("the seed %d, behind all", seed))
	}
}

// same holds all that can be seen of two floors against each other.
func (s *scene) same(other *scene, where string) {
	s.Helper()
	if told := s.view().against(other.view()); told != "-" || !slices.Equal(s.pulses(), other.pulses()) {
		s.Fatalf("%s: %s; pulses %v, not %v", where, told, s.pulses(), other.pulses())
	}
}

// ended lets each thread be picked alone, till it is done: in turn they may get into each other's way for long.
func ended(t *testing.T, l []*actor) {
	t.Helper()
	for _, a := range l {
		a.run()
		a.ended()
	}
}

// P15.2: what is there at the end is what the transactions that committed make of the first values, in the order of their commits; all of them commit, if tickets and room last.
func TestCommittedInOrder(t *testing.T) {
	for seed := range 600 {
		d := dice(seed*104729 + 11)
		few := seed%3 == 0
		l := d.laid(false, few)
		threads := l.threads(t)
		for _, p := range d.picks(l.c.Threads, 100+d.to(600)) {
			threads[p].Step()
		}
		threads[0].inOrder(l)
		ended(t, threads)
		threads[0].inOrder(l)
		for no, a := range threads {
			if a.at(len(l.all[no]), 0, a.Commits(), true); !few && a.Commits() != len(l.all[no]) {
				t.Fatalf("the seed %d, %+v, the thread %d: %d commits", seed, l.c, no, a.Commits())
			}
		}
		threads[0].orderly(t, threads)
		if x := threads[0].Gate().See(); x != (gate.Sight{}) {
			t.Fatalf("the seed %d: behind all there is a senior, %+v", seed, x)
		}
	}
}

// inOrder does the transactions that committed alone, one behind the other.
func (s *scene) inOrder(l laid) {
	s.Helper()
	var all [][]api.Op
	for _, e := range s.Trace() {
		if e.Kind == api.EvCommit {
			all = append(all, l.all[e.Thread][e.Txn])
		}
	}
	if want := alone(s.T, all, l.first); !slices.Equal(s.Values(), want) {
		s.Fatalf("%+v: Values: %v, not %v", l.c, s.Values(), want)
	}
}

// orderly asks of a trace whether each transaction goes by the chapter: attempts 1, 2 and so on, by one stamp that nobody else has, one behind the other; refused or committed once, or at its end for want of room.
func (s *scene) orderly(t *testing.T, threads []*actor) {
	t.Helper()
	type at struct{ thread, txn int }
	tries, stamps, open, over := map[at]int{}, map[int64]at{}, map[at]bool{}, map[at]bool{}
	next, commits := map[int]int{}, map[int]int{}
	for _, e := range s.Trace() {
		k := at{e.Thread, e.Txn}
		if over[k] || e.Txn != next[e.Thread] {
			t.Fatalf("%+v of a transaction that isn't at hand", e)
		}
		switch e.Kind {
		case api.EvBegin:
			tries[k]++
			if who, told := stamps[e.Val]; e.Attempt != tries[k] || open[k] || told && who != k || !told && e.Attempt != 1 {
				t.Fatalf("%+v: the attempt %d, the stamp of %v", e, tries[k], who)
			}
			stamps[e.Val], open[k] = k, true
		case api.EvCommit, api.EvAbort:
			if !open[k] || e.Attempt != tries[k] {
				t.Fatalf("%+v, but the attempt %d", e, tries[k])
			}
			open[k], over[k] = false, e.Kind == api.EvCommit || e.Reason == api.Memory
			if e.Kind == api.EvCommit {
				commits[e.Thread]++
			}
		case api.EvRefuse:
			if open[k] || e.Attempt != 0 || e.Reason != 4 && (e.Reason != 5 || tries[k] > 0) {
				t.Fatalf("%+v, behind %d attempts", e, tries[k])
			}
			over[k] = true
		}
		if over[k] {
			next[e.Thread]++
		}
	}
	for no, a := range threads {
		if a.Txn() != next[no] || a.Commits() != commits[no] {
			t.Fatalf("the thread %d: %d, %d, not %d, %d", no, a.Txn(), a.Commits(), next[no], commits[no])
		}
	}
}

// P15.2: all interleavings of two threads that get into each other's way, by each manager, each of them alone behind that.
func TestAllInterleavings(t *testing.T) {
	for _, manager := range managers() {
		for _, q := range [][2][]string{
			{{"r0 +1 w0"}, {"r0 +2 w0"}},
			{{"r0 w1"}, {"r1 w0"}},
			{{"=1", "w0 w1"}, {"=7 w0", "r0 r1"}},
		} {
			for row := range 1 << 13 {
				interleave(t, manager, q, row)
			}
		}
	}
}

// interleave lets two threads make steps by the bits of a row, and then each of them go on alone.
func interleave(t *testing.T, manager int, words [2][]string, row int) {
	t.Helper()
	l := laid{
		c:     api.Config{Objects: 2, Threads: 2, Records: 400, Tickets: 9, Manager: manager, Wait: 1},
		first: []int64{5, 6},
		all:   [][][]api.Op{txns(words[0]...), txns(words[1]...)},
	}
	threads := l.threads(t)
	threads[0].quiet(2) // ticket, begin
	threads[1].quiet(2)
	for range 13 {
		threads[row&1].Step()
		row >>= 1
	}
	for _, a := range threads {
		a.run()
		if a.Commits() != len(words[a.no]) {
			t.Fatalf("the manager %d, %v: %d commits", manager, words, a.Commits())
		}
	}
	threads[0].inOrder(l)
}
