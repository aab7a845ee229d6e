package hist_test

import (
	"slices"
	"testing"

	"quarrel/api"
	"quarrel/crowd"
	"quarrel/hist"
)

// dice are numbers that look as if they were thrown.
type dice uint32

// to is one from 0 to one below n.
func (d *dice) to(n int) int {
	*d = *d*1664525 + 1013904223
	return int(*d>>8) % n
}

// next is an event that may come behind a trace that is right, of a few threads, transactions and objects.
func (d *dice) next(l []api.Event) api.Event {
	for {
		e := api.Event{Kind: 1 + d.to(7), Thread: d.to(4), Txn: d.to(3), Attempt: 1 + d.to(4), Obj: d.to(3), Val: int64(d.to(9) - 4), Reason: 1 + d.to(4)}
		if e.Kind >= api.EvCommit && d.to(3) > 0 {
			continue
		}
		if at := last(l, len(l), func(o api.Event) bool { return o.Thread == e.Thread }); at >= 0 && e.Kind != api.EvBegin && d.to(4) > 0 {
			e.Txn, e.Attempt = l[at].Txn, l[at].Attempt
		}
		if fits(append(slices.Clone(l), e), len(l)) {
			return e
		}
	}
}

// spoilt is a trace with something done to it: an event is another one, is left out, comes twice, or two change places.
func (d *dice) spoilt(l []api.Event) []api.Event {
	l = slices.Clone(l)
	at := d.to(len(l))
	switch d.to(8) {
	case 0:
		l[at].Kind = d.to(10) - 1
	case 1:
		l[at].Thread = d.to(5)
	case 2:
		l[at].Txn = d.to(4)
	case 3:
		l[at].Attempt += d.to(3) - 1
	case 4:
		l[at].Obj, l[at].Val, l[at].Reason = d.to(4), int64(d.to(9)), d.to(6)
	case 5:
		l = slices.Delete(l, at, at+1)
	case 6:
		l = slices.Insert(l, d.to(len(l)+1), l[at])
	case 7:
		other := d.to(len(l))
		l[at], l[other] = l[other], l[at]
	}
	return l
}

// P17.1 to P17.4: traces that are thrown, right ones, and such as something was done to, held against plain ones.
func TestThrown(t *testing.T) {
	rights, wrongs := 0, 0
	for seed := range 400 {
		d := dice(seed*7919 + 1)
		var l []api.Event
		for range 1 + d.to(40) {
			l = append(l, d.next(l))
		}
		check(t, l)
		if !hist.Right(l) {
			t.Fatalf("%v isn't right", l)
		}
		for range 12 {
			s := d.spoilt(l)
			if d.to(4) == 0 && len(s) > 0 {
				s = d.spoilt(s)
			}
			check(t, s)
			if hist.Right(s) {
				rights++
			} else {
				wrongs++
			}
		}
	}
	if rights < 300 || wrongs < 1000 {
		t.Errorf("%d right ones, %d wrong ones", rights, wrongs)
	}
}

// beginnings asks all beginnings of a trace that is right for being right, and for as many tries that committed as there are EvCommit.
func beginnings(t *testing.T, l []api.Event) {
	t.Helper()
	for n := range len(l) + 1 {
		part := l[:n]
		if !hist.Right(part) {
			t.Fatalf("the beginning %d of %v isn't right", n, l)
		}
		done := hist.Commits(part)
		if len(done) != hist.Before(l, n) || len(done) != hist.Before(part, n) {
			t.Fatalf("the beginning %d of %v: %d committed, not %d", n, l, len(done), hist.Before(l, n))
		}
		begun := 0
		for _, e := range part {
			if e.Kind == api.EvBegin {
				begun++
			}
		}
		all := hist.Tries(part)
		if len(all) != begun {
			t.Fatalf("the beginning %d of %v: %d tries, not %d", n, l, len(all), begun)
		}
		for i, try := range done {
			if hist.Before(part, try.End) != i {
				t.Fatalf("the beginning %d of %v: ahead of the commit %d there are %d", n, l, i, hist.Before(part, try.End))
			}
		}
	}
}

// P17.4: each beginning of a right trace is right; as many tries committed as there are EvCommit.
func TestBeginnings(t *testing.T) {
	for seed := range 200 {
		d := dice(seed*104729 + 5)
		var l []api.Event
		for range d.to(60) {
			l = append(l, d.next(l))
		}
		beginnings(t, l)
	}
}

// P17.4: of a trace that isn't right no beginning is right from some place on.
func TestBeginningsOfWrongOnes(t *testing.T) {
	for seed := range 200 {
		d := dice(seed*15485863 + 7)
		var l []api.Event
		for range 30 {
			l = append(l, d.next(l))
		}
		l = d.spoilt(d.spoilt(d.spoilt(l)))
		was := true
		for n := range len(l) + 1 {
			is := hist.Right(l[:n])
			if is && !was || is != right(l[:n]) {
				t.Fatalf("the beginning %d of %v: %v behind %v", n, l, is, was)
			}
			was = is
		}
	}
}

// managers are all that there are.
func managers() []int { return []int{api.Polite, api.Karma, api.Stamp, api.Greedy} }

// transaction is one that is thrown.
func (d *dice) transaction(objects int) []api.Op {
	var l []api.Op
	for range 1 + d.to(5) {
		o := api.Op{Kind: 1 + d.to(5)}
		if o.Kind == api.Set || o.Kind == api.Add {
			o.Arg = int64(d.to(9) - 4)
		} else {
			o.Obj = d.to(objects)
		}
		l = append(l, o)
	}
	return l
}

// crowd is one that is thrown, by a manager, with records and tickets enough, or with too few.
func (d *dice) crowd(t *testing.T, manager int, few bool) *crowd.Crowd {
	c := api.Config{Objects: 1 + d.to(3), Threads: 1 + d.to(4), Records: 2000, Tickets: 30, Manager: manager, Wait: 1 + d.to(6)}
	if few {
		c.Records, c.Tickets = 2*c.Objects+d.to(60), d.to(8)
	}
	var all [][][]api.Op
	for range c.Threads {
		var txns [][]api.Op
		for range d.to(5) {
			txns = append(txns, d.transaction(c.Objects))
		}
		all = append(all, txns)
	}
	g, e := crowd.New(c, make([]int64, c.Objects), []byte{3, 0, 7}, all)
	if e != api.OK {
		t.Fatalf("a crowd of %+v: error %d", c, e)
	}
	return g
}

// tells holds a crowd's trace against what the crowd itself knows: its commits, and each descriptor's record and status, in the order in which they were put.
func tells(t *testing.T, g *crowd.Crowd, threads int) {
	t.Helper()
	l, table := g.Floor().Trace(), g.Floor().Table()
	if !hist.Right(l) {
		t.Fatalf("%v isn't right", l)
	}
	if got := hist.Commits(l); len(got) != g.Commits() {
		t.Fatalf("%v: %+v committed, not %d", l, got, g.Commits())
	}
	all := hist.Tries(l)
	if len(all) != table.Count() {
		t.Fatalf("%v: %d tries, not %d", l, len(all), table.Count())
	}
	at := 0
	for _, try := range all {
		r, e := table.Rec(at)
		for e != api.OK {
			at++
			r, e = table.Rec(at)
		}
		if want := (api.Rec{Kind: api.Descriptor, Thread: try.Thread, Txn: try.Txn, Attempt: try.Attempt, Stamp: try.Stamp}); r != want {
			t.Fatalf("%v: the descriptor %d is %+v, not %+v", l, at, r, want)
		}
		if s := table.Status(at); try.Committed != (s == api.Committed) || s == api.Active && try.End != -1 {
			t.Fatalf("%v: the status %d of %+v", l, s, try)
		}
		at++
	}
	for no := range threads {
		if n := g.Thread(no).Try(); n > 0 && len(hist.Of(l, no, g.Thread(no).Txn())) < n {
			t.Fatalf("%v: the thread %d is at its try %d", l, no, n)
		}
	}
}

// P17.1 to P17.4: the traces of crowds, by each manager, on their way and at their end, and each of their beginnings.
func TestCrowds(t *testing.T) {
	var aborted [5]int
	committed := 0
	for _, manager := range managers() {
		for seed := range 60 {
			d := dice(seed*7919 + manager)
			g := d.crowd(t, manager, seed%3 == 0)
			threads := g.Floor().Config().Threads
			for n := range 200 {
				g.Run(slices.Repeat([]int{d.to(threads)}, 1+d.to(3))...)
				if n%20 == 0 {
					tells(t, g, threads)
				}
			}
			for _, no := range g.Unfinished() {
				for g.Pick(no) {
				}
			}
			tells(t, g, threads)
			l := g.Floor().Trace()
			beginnings(t, l)
			check(t, l)
			for _, try := range hist.Tries(l) {
				aborted[try.Reason]++
				if try.End == -1 {
					t.Errorf("%+v hasn't ended", try)
				}
			}
			committed += len(hist.Commits(l))
		}
	}
	for reason, n := range aborted[1:] {
		if n == 0 {
			t.Errorf("none was aborted for the reason %d", reason+1)
		}
	}
	if committed < 500 {
		t.Errorf("only %d committed", committed)
	}
}

// P17.2: by a crowd, a read behind another one that is released is marked as the attempt itself has it: own of an object that is its own, released of one whose reading it dropped.
func TestMarksOfACrowd(t *testing.T) {
	for _, manager := range managers() {
		c := api.Config{Objects: 2, Threads: 1, Records: 100, Tickets: 3, Manager: manager, Wait: 1}
		txn := []api.Op{{Kind: api.Read}, {Kind: api.Read}, {Kind: api.Release}, {Kind: api.Release}, {Kind: api.Read}, {Kind: api.Add, Arg: 1}, {Kind: api.Write}, {Kind: api.Read}}
		g, e := crowd.New(c, []int64{5, 6}, nil, [][][]api.Op{{txn, {{Kind: api.Read}}}})
		if e != api.OK {
			t.Fatalf("error %d", e)
		}
		for g.Pick(0) {
		}
		l := hist.Commits(g.Floor().Trace())
		if len(l) != 2 || marks(l[0]) != "r0x r0x r0 w0 r0o " || marks(l[1]) != "r0 " || l[1].Accesses[0].Val != 6 {
			t.Errorf("%+v", l)
		}
	}
}
