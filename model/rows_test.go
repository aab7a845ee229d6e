package model_test

import (
	"slices"
	"testing"

	"quarrel/api"
	"quarrel/crowd"
	"quarrel/hist"
	"quarrel/lang"
	"quarrel/model"
)

// dice are numbers that look as if they were thrown.
type dice uint32

// to is one from 0 to one below n.
func (d *dice) to(n int) int {
	*d = *d*1664525 + 1013904223
	return int(*d>>8) % n
}

// next is an event that may come behind a trace that is right, of a few threads, transactions and objects.
func (d *dice) next(l []api.Event) api.Event {
	for {
		e := api.Event{Kind: 1 + d.to(7), Thread: d.to(3), Txn: d.to(2), Attempt: 1 + d.to(4), Obj: d.to(4), Val: int64(d.to(5)), Reason: d.to(5)}
		if e.Kind >= api.EvAbort && d.to(3) > 0 {
			continue
		}
		if hist.Right(append(slices.Clone(l), e)) {
			return e
		}
	}
}

// values are so many that are thrown.
func (d *dice) values(n int) []int64 {
	var l []int64
	for range n {
		l = append(l, int64(d.to(5)))
	}
	return l
}

// transaction is one that is thrown, of so many objects, with releases or without.
func (d *dice) transaction(objects int, releases bool) []api.Op {
	var l []api.Op
	for range 1 + d.to(5) {
		o := api.Op{Kind: 1 + d.to(4)}
		if releases {
			o.Kind = 1 + d.to(5)
		}
		if o.Kind == api.Set || o.Kind == api.Add {
			o.Arg = int64(d.to(9) - 4)
		} else {
			o.Obj = d.to(objects)
		}
		l = append(l, o)
	}
	return l
}

// transactions are those of so many threads.
func (d *dice) transactions(threads, objects int, releases bool) [][][]api.Op {
	all := make([][][]api.Op, threads)
	for no := range all {
		for range d.to(5) {
			all[no] = append(all[no], d.transaction(objects, releases))
		}
	}
	return all
}

// spoilt is a trace with something done to it: an event is another one, is left out, comes twice, or two change places.
func (d *dice) spoilt(l []api.Event) []api.Event {
	l = slices.Clone(l)
	at := d.to(len(l))
	switch d.to(9) {
	case 0:
		l[at].Kind = d.to(10) - 1
	case 1:
		l[at].Thread = d.to(4) - 1
	case 2:
		l[at].Txn = d.to(4) - 1
	case 3:
		l[at].Attempt += d.to(3) - 1
	case 4:
		l[at].Obj = d.to(6) - 1
	case 5:
		l[at].Val = int64(d.to(9))
	case 6:
		l = slices.Delete(l, at, at+1)
	case 7:
		l = slices.Insert(l, d.to(len(l)+1), l[at])
	case 8:
		other := d.to(len(l))
		l[at], l[other] = l[other], l[at]
	}
	return l
}

// fitting asks each try of a trace, on each state, and tells how many fit.
func fitting(t *testing.T, first []int64, l []api.Event) int {
	t.Helper()
	n := 0
	for _, x := range hist.Tries(l) {
		for _, state := range model.States(first, l) {
			checkTry(t, state, x)
			if model.Fits(state, x) {
				n++
			}
		}
	}
	return n
}

// P18.1, P18.2, P18.4: traces that are thrown, right ones, and such as something was done to, held against plain ones.
func TestThrown(t *testing.T) {
	rights, others, fit := 0, 0, 0
	for seed := range 300 {
		d := dice(seed*7919 + 1)
		first := d.values(d.to(5))
		var l []api.Event
		for range 1 + d.to(40) {
			l = append(l, d.next(l))
		}
		check(t, first, l)
		beginnings(t, first, l)
		fit += fitting(t, first, l)
		for range 12 {
			s := d.spoilt(l)
			check(t, first, s)
			if hist.Right(s) {
				rights++
			} else {
				others++
			}
		}
	}
	if rights < 300 || others < 1000 || fit < 1000 {
		t.Errorf("%d right ones, %d others, %d fit", rights, others, fit)
	}
}

// course is a trace on its way, by which each transaction runs.
type course struct {
	*dice
	all    [][][]api.Op
	values []int64
	l      []api.Event
	open   map[int]api.Event // each thread's EvBegin, as long as its try hasn't ended
	next   map[int]int       // the number of each thread's next transaction
}

// note puts an event of a thread's try behind all others.
func (c *course) note(thread int, e api.Event) {
	b := c.open[thread]
	e.Thread, e.Txn, e.Attempt = thread, b.Txn, b.Attempt
	c.l = append(c.l, e)
}

// commit ends a thread's try with what its transaction leaves alone: it writes all objects, or just those that change, some of them twice, and the last time is what counts.
func (c *course) commit(thread int) {
	behind, _ := lang.Alone(c.all[thread][c.open[thread].Txn], c.values)
	whole := c.to(2) == 0
	for obj, val := range behind {
		wrote := slices.ContainsFunc(c.l, func(e api.Event) bool {
			return e.Kind == api.EvWrite && same(e, c.open[thread]) && e.Obj == obj
		})
		if whole || wrote || val != c.values[obj] {
			for range c.to(2) {
				c.note(thread, api.Event{Kind: api.EvWrite, Obj: obj, Val: int64(c.to(5))})
			}
			c.note(thread, api.Event{Kind: api.EvWrite, Obj: obj, Val: val})
		}
	}
	c.note(thread, api.Event{Kind: api.EvCommit})
	c.values = behind
	c.next[thread]++
	delete(c.open, thread)
}

// step lets a thread do something: it begins, reads, writes, commits, or is aborted, behind a release at times.
func (c *course) step(thread int) {
	b, open := c.open[thread]
	switch no := c.next[thread]; {
	case !open && no < len(c.all[thread]):
		attempt := 1
		for _, e := range c.l {
			if e.Kind == api.EvBegin && e.Thread == thread && e.Txn == no {
				attempt++
			}
		}
		c.open[thread] = api.Event{Thread: thread, Txn: no, Attempt: attempt}
		c.note(thread, api.Event{Kind: api.EvBegin})
	case !open:
		c.l = append(c.l, api.Event{Kind: api.EvRefuse, Thread: thread, Txn: no, Reason: 5})
	default:
		switch c.to(6) {
		case 0, 1:
			c.note(thread, api.Event{Kind: api.EvRead, Obj: c.to(4), Val: int64(c.to(5))})
		case 2:
			c.note(thread, api.Event{Kind: api.EvWrite, Obj: c.to(4), Val: int64(c.to(5))})
		case 3:
			if c.to(2) == 0 {
				c.note(thread, api.Event{Kind: api.EvRelease, Obj: c.to(4)})
			}
			c.note(thread, api.Event{Kind: api.EvAbort, Reason: 1 + c.to(4)})
			delete(c.open, b.Thread)
		default:
			c.commit(thread)
		}
	}
}

// P18.3: traces that are thrown, by which each transaction runs, and such as something was done to, or to their transactions, held against the plain one.
func TestThrownRuns(t *testing.T) {
	runs, not := 0, 0
	for seed := range 300 {
		d := dice(seed*104729 + 5)
		objects, threads := 1+d.to(3), 1+d.to(3)
		first := d.values(objects)
		c := &course{dice: &d, all: d.transactions(threads, objects, true), values: first, open: map[int]api.Event{}, next: map[int]int{}}
		for range 40 {
			c.step(d.to(threads))
		}
		if !checkRuns(t, first, c.l, c.all) {
			t.Fatalf("%v, %v, %v doesn't run", first, c.l, c.all)
		}
		check(t, first, c.l)
		if got := model.Last(first, c.l); !slices.Equal(got, c.values) {
			t.Fatalf("%v, %v: at last %v, not %v", first, c.l, got, c.values)
		}
		for range 30 {
			l, all, values := d.spoilt(c.l), c.all, first
			switch d.to(4) {
			case 0:
				l, all = c.l, d.transactions(threads, objects, true)
			case 1:
				l, values = c.l, d.values(objects)
			}
			check(t, values, l)
			if checkRuns(t, values, l, all) {
				runs++
			} else {
				not++
			}
		}
	}
	if runs < 1000 || not < 1000 {
		t.Errorf("%d run, %d don't", runs, not)
	}
}

// P18.4, P18.3: each beginning of a trace that runs does, too; behind the first beginning that doesn't run, none does.
func TestBeginningsThatRun(t *testing.T) {
	stopped := 0
	for seed := range 150 {
		d := dice(seed*15485863 + 7)
		objects, threads := 1+d.to(3), 1+d.to(3)
		first := d.values(objects)
		c := &course{dice: &d, all: d.transactions(threads, objects, false), values: first, open: map[int]api.Event{}, next: map[int]int{}}
		for range 30 {
			c.step(d.to(threads))
		}
		beginnings(t, first, c.l)
		for n := range len(c.l) + 1 {
			if !model.Runs(first, c.l[:n], c.all) {
				t.Fatalf("the beginning %d of %v, %v, %v doesn't run", n, first, c.l, c.all)
			}
		}
		l, was := d.spoilt(c.l), true
		for n := range len(l) + 1 {
			is := checkRuns(t, first, l[:n], c.all)
			if is && !was {
				t.Fatalf("the beginning %d of %v, %v, %v runs again", n, first, l, c.all)
			}
			was = is
		}
		if !was {
			stopped++
		}
	}
	if stopped < 50 {
		t.Errorf("only %d stopped", stopped)
	}
}

// managers are all that there are.
func managers() []int { return []int{api.Polite, api.Karma, api.Stamp, api.Greedy} }

// tells asks a crowd's trace for its objects' values, as its last state; for each try that committed to fit the state ahead of it; and, unless something is released, for transactions that run.
func tells(t *testing.T, g *crowd.Crowd, first []int64, all [][][]api.Op, releases bool) {
	t.Helper()
	l := g.Floor().Trace()
	check(t, first, l)
	if got, want := model.Last(first, l), g.Floor().Values(); !slices.Equal(got, want) {
		t.Fatalf("%v, %v: at last %v, not %v", first, l, got, want)
	}
	states := model.States(first, l)
	if len(states) != g.Commits()+1 {
		t.Fatalf("%v, %v: %d states of %d commits", first, l, len(states), g.Commits())
	}
	for n, x := range hist.Commits(l) {
		checkTry(t, states[n], x)
		if !model.Fits(states[n], x) || !slices.Equal(model.Apply(states[n], x), states[n+1]) {
			t.Fatalf("%v, %v: %+v on %v makes %v", first, l, x, states[n], states[n+1])
		}
	}
	if got := checkRuns(t, first, l, all); !got && !releases {
		t.Fatalf("%v, %v, %v doesn't run", first, l, all)
	}
}

// P18.1 to P18.4: the traces of crowds, by each manager, on their way and at their end, and each of their beginnings.
func TestCrowds(t *testing.T) {
	for _, manager := range managers() {
		committed, aborted, run, not := 0, 0, 0, 0
		for seed := range 80 {
			d := dice(seed*7919 + manager)
			releases := seed%2 == 0
			c := api.Config{Objects: 1 + d.to(3), Threads: 1 + d.to(4), Records: 2000, Tickets: 30, Manager: manager, Wait: 1 + d.to(6)}
			if seed%5 == 0 {
				c.Records, c.Tickets = 2*c.Objects+d.to(60), d.to(8)
			}
			first, all := d.values(c.Objects), d.transactions(c.Threads, c.Objects, releases)
			g, e := crowd.New(c, first, []byte{3, 0, 7}, all)
			if e != api.OK {
				t.Fatalf("a crowd of %+v: error %d", c, e)
			}
			for n := range 150 {
				g.Run(slices.Repeat([]int{d.to(c.Threads)}, 1+d.to(3))...)
				if n%30 == 0 {
					tells(t, g, first, all, releases)
				}
			}
			for _, no := range g.Unfinished() {
				for g.Pick(no) {
				}
			}
			tells(t, g, first, all, releases)
			l := g.Floor().Trace()
			beginnings(t, first, l)
			for n := range len(l) + 1 {
				if checkRuns(t, first, l[:n], all) {
					run++
				} else {
					not++
				}
			}
			committed += len(hist.Commits(l))
			aborted += len(hist.Tries(l)) - len(hist.Commits(l))
		}
		if committed < 200 || aborted < 30 || run < 500 || not < 10 {
			t.Errorf("the manager %d: %d committed, %d didn't, %d beginnings run, %d don't", manager, committed, aborted, run, not)
		}
	}
}

// P18.3: a crowd's trace runs by its own transactions, not by others, nor on other values.
func TestCrowdsByOtherTransactions(t *testing.T) {
	for _, manager := range managers() {
		c := api.Config{Objects: 2, Threads: 2, Records: 900, Tickets: 40, Manager: manager, Wait: 4}
		all := lists("r0 +1 w0/r1 +2 w1", "r0 +1 w0/r1 +3 w0")
		g, e := crowd.New(c, []int64{5, 6}, nil, all)
		if e != api.OK {
			t.Fatalf("error %d", e)
		}
		g.Rounds(15)
		for _, no := range g.Unfinished() {
			for g.Pick(no) {
			}
		}
		l := g.Floor().Trace()
		if g.Commits() != 4 || !checkRuns(t, []int64{5, 6}, l, all) {
			t.Errorf("the manager %d: %d committed, %v doesn't run", manager, g.Commits(), l)
		}
		for _, other := range [][][][]api.Op{lists("r0 +1 w0/r1 +1 w1", "r0 +1 w0/r1 +3 w0"), lists("r0 +1 w0/r1 +2 w1", "r0 +1 w0"), lists("r1 +2 w1/r0 +1 w0", "r0 +1 w0/r1 +3 w0"), lists("r0 +1 w0/r1 +2 w1")} {
			if checkRuns(t, []int64{5, 6}, l, other) {
				t.Errorf("the manager %d: %v runs by %v", manager, l, other)
			}
		}
		for _, first := range [][]int64{{6, 6}, {5, 7}, {5}, nil} {
			if checkRuns(t, first, l, all) {
				t.Errorf("the manager %d: %v runs on %v", manager, l, first)
			}
		}
	}
}
