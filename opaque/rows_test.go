package opaque_test

import (
	"slices"
	"testing"

	"quarrel/api"
	"quarrel/crowd"
	"quarrel/hist"
	"quarrel/opaque"
)

// dice are numbers that look as if they were thrown.
type dice uint32

// to is one from 0 to one below n.
func (d *dice) to(n int) int {
	*d = *d*1664525 + 1013904223
	return int(*d>>8) % n
}

// values are so many that are thrown.
func (d *dice) values(n int) []int64 {
	var l []int64
	for range n {
		l = append(l, int64(d.to(3)))
	}
	return l
}

// next is an event that may come behind a trace that is right, of a few threads and transactions, and of so many objects.
func (d *dice) next(l []api.Event, objects int) api.Event {
	for {
		e := api.Event{Kind: 1 + d.to(7), Thread: d.to(4), Txn: d.to(2), Attempt: 1 + d.to(6), Obj: d.to(objects), Val: int64(d.to(4)), Reason: d.to(5)}
		if e.Kind == api.EvRefuse && d.to(20) > 0 || (e.Kind == api.EvRelease || e.Kind == api.EvAbort) && d.to(3) > 0 {
			continue
		}
		if hist.Right(append(slices.Clone(l), e)) {
			return e
		}
	}
}

// trace is one that is right, that is thrown, of so many events.
func (d *dice) trace(n, objects int) []api.Event {
	var l []api.Event
	for range n {
		l = append(l, d.next(l, objects))
	}
	return l
}

// sighted is a trace in which each try sees a state that is thrown, out of those at which it may be seen, the last one as often as all others. (What is read changes no state.)
func (d *dice) sighted(first []int64, l []api.Event) []api.Event {
	l = slices.Clone(l)
	all := attempts(l)
	told := states(first, l, all)
	for _, a := range all {
		p, end := commits(l, a.begin), commits(l, a.end)
		if a.committed || d.to(2) == 0 {
			p = end
		}
		a.sees(l, told[p+d.to(end-p+1)])
	}
	return l
}

// sees lets an attempt's reads, in its trace, tell what they should by these values.
func (a attempt) sees(l []api.Event, values []int64) {
	values = slices.Clone(values)
	for at := a.begin; at < min(a.end, len(l)); at++ {
		e := l[at]
		if e.Thread != l[a.begin].Thread || e.Obj >= len(values) {
			continue
		}
		switch e.Kind {
		case api.EvWrite:
			values[e.Obj] = e.Val
		case api.EvRead:
			l[at].Val = values[e.Obj]
		}
	}
}

// spoilt is a trace with something done to it: an event is another one, is left out, comes twice, two change places, or what was read is something else.
func (d *dice) spoilt(l []api.Event) []api.Event {
	l = slices.Clone(l)
	at := d.to(len(l))
	switch d.to(13) {
	case 0:
		l[at].Kind = d.to(10) - 1
	case 1:
		l[at].Thread = d.to(4) - 1
	case 2:
		l[at].Txn = d.to(4) - 1
	case 3:
		l[at].Attempt += d.to(3) - 1
	case 4:
		l[at].Obj = d.to(6) - 1
	case 5:
		l[at].Val = int64(d.to(4))
	case 6:
		l = slices.Delete(l, at, at+1)
	case 7:
		l = slices.Insert(l, d.to(len(l)+1), l[at])
	case 8:
		other := d.to(len(l))
		l[at], l[other] = l[other], l[at]
	default:
		for i := range l {
			if e := &l[(at+i)%len(l)]; e.Kind == api.EvRead {
				e.Val = int64(d.to(4))
				break
			}
		}
	}
	return l
}

// P19.1 to P19.3: traces that are thrown, such as could be seen, and such as something was done to, with all their beginnings, held against plain ones.
func TestThrown(t *testing.T) {
	is, not, wrong, later := 0, 0, 0, 0
	for seed := range 400 {
		d := dice(seed*7919 + 1)
		first := d.values(1 + d.to(3))
		thrown := d.trace(1+d.to(60), len(first))
		beginnings(t, first, thrown)
		l := d.sighted(first, thrown)
		if !check(t, first, l) {
			t.Fatalf("%v, %v isn't opaque", first, l)
		}
		beginnings(t, first, l)
		ps, _ := opaque.Seen(first, l)
		for no, a := range attempts(l) {
			if !a.committed && ps[no] > commits(l, a.begin) {
				later++
			}
		}
		for range 20 {
			s := d.spoilt(l)
			switch opaque := check(t, first, s); {
			case opaque:
				is++
			case hist.Right(s):
				not++
			default:
				wrong++
			}
		}
	}
	if is < 1000 || not < 500 || wrong < 1000 || later < 30 {
		t.Errorf("%d are opaque, %d aren't, %d aren't right; %d tries are seen behind their beginning", is, not, wrong, later)
	}
}

// all are all events that may come behind a trace of two threads and one object that is right, one of these threads having begun first.
func all(l []api.Event) []api.Event {
	var may []api.Event
	for thread := range 2 {
		if thread == 1 && len(l) == 0 {
			return may
		}
		begun, open := 0, false
		for _, e := range l {
			if e.Thread == thread {
				open = e.Kind != api.EvCommit && e.Kind != api.EvAbort
				if e.Kind == api.EvBegin {
					begun++
				}
			}
		}
		if !open {
			may = append(may, api.Event{Kind: api.EvBegin, Thread: thread, Attempt: begun + 1})
			continue
		}
		for _, e := range []api.Event{{Kind: api.EvRead}, {Kind: api.EvRead, Val: 1}, {Kind: api.EvWrite}, {Kind: api.EvWrite, Val: 1}, {Kind: api.EvRelease}, {Kind: api.EvCommit}, {Kind: api.EvAbort, Reason: 1}} {
			e.Thread, e.Attempt = thread, begun
			may = append(may, e)
		}
	}
	return may
}

// P19.1 to P19.3: all traces of up to six events of two threads on one object, held against plain ones.
func TestAllShortTraces(t *testing.T) {
	is, not := 0, 0
	var on func(l []api.Event)
	on = func(l []api.Event) {
		if check(t, []int64{0}, l) {
			is++
		} else {
			not++
		}
		if len(l) < 6 {
			for _, e := range all(l) {
				on(append(slices.Clip(l), e))
			}
		}
	}
	on(nil)
	if is < 10_000 || not < 10_000 {
		t.Errorf("%d are opaque, %d aren't", is, not)
	}
}

// managers are all that there are.
func managers() []int { return []int{api.Polite, api.Karma, api.Stamp, api.Greedy} }

// transaction is one that is thrown, of so many objects; with none that is written again, if it isn't said so.
func (d *dice) transaction(objects int, again bool) []api.Op {
	var l []api.Op
	for range 1 + d.to(7) {
		o := api.Op{Kind: []int{api.Read, api.Read, api.Read, api.Write, api.Write, api.Add, api.Set, api.Release}[d.to(8)]}
		if o.Kind == api.Set || o.Kind == api.Add {
			o.Arg = int64(d.to(9) - 4)
		} else {
			o.Obj = d.to(objects)
		}
		if o.Kind == api.Write && !again && slices.Contains(l, o) {
			o.Kind = api.Read
		}
		l = append(l, o)
	}
	return l
}

// crowd is one that is thrown, by a manager, and its first values.
func (d *dice) crowd(t *testing.T, manager int, few, again bool) (*crowd.Crowd, []int64) {
	c := api.Config{Objects: 1 + d.to(3), Threads: 2 + d.to(4), Records: 2000, Tickets: 30, Manager: manager, Wait: 1 + d.to(4)}
	if few {
		c.Records, c.Tickets = 2*c.Objects+d.to(60), d.to(8)
	}
	first, all := d.values(c.Objects), make([][][]api.Op, c.Threads)
	for no := range all {
		for range 1 + d.to(3) {
			all[no] = append(all[no], d.transaction(c.Objects, again))
		}
	}
	g, e := crowd.New(c, first, []byte{3, 0, 7}, all)
	if e != api.OK {
		t.Fatalf("a crowd of %+v: error %d", c, e)
	}
	return g, first
}

// runs lets a crowd make steps, as they are thrown, and then each of its threads alone.
func (d *dice) runs(g *crowd.Crowd) {
	threads := g.Floor().Config().Threads
	for range 200 {
		g.Run(slices.Repeat([]int{d.to(threads)}, 1+d.to(3))...)
	}
	for _, no := range g.Unfinished() {
		for g.Pick(no) {
		}
	}
}

// P19.1 to P19.3: the traces of crowds, by each manager, with records and tickets enough, and with too few; where no object is written again by one that wrote it, each of their beginnings is opaque.
func TestCrowds(t *testing.T) {
	for _, manager := range managers() {
		committed, aborted, turned := 0, 0, 0
		for seed := range 80 {
			d := dice(seed*7919 + manager)
			again := seed%4 == 0
			g, first := d.crowd(t, manager, seed%5 == 0, again)
			d.runs(g)
			l := g.Floor().Trace()
			if n := beginnings(t, first, l); n != len(l)+1 && !again {
				t.Fatalf("the manager %d: %v, %v: just %d of %d beginnings are opaque", manager, first, l, n, len(l)+1)
			}
			turns, _ := opaque.Order(first, l)
			if !slices.IsSorted(turns) {
				turned++
			}
			committed += len(hist.Commits(l))
			aborted += len(hist.Tries(l)) - len(hist.Commits(l))
		}
		if committed < 200 || aborted < 30 || turned < 30 {
			t.Errorf("the manager %d: %d committed, %d didn't, %d orders aren't that of the beginnings", manager, committed, aborted, turned)
		}
	}
}

// P19.1: crowds' traces to which something was done, held against plain ones.
func TestSpoiltCrowds(t *testing.T) {
	for _, manager := range managers() {
		is, not, wrong := 0, 0, 0
		for seed := range 60 {
			d := dice(seed*104729 + manager)
			g, first := d.crowd(t, manager, false, false)
			d.runs(g)
			for range 20 {
				s := d.spoilt(g.Floor().Trace())
				switch opaque := check(t, first, s); {
				case opaque:
					is++
				case hist.Right(s):
					not++
				default:
					wrong++
				}
			}
		}
		if is < 100 || not < 100 || wrong < 100 {
			t.Errorf("the manager %d: %d are opaque, %d aren't, %d aren't right", manager, is, not, wrong)
		}
	}
}

// many are so many tries, each by its own thread, that begin one behind the other, and read, and write, one object each, if that is 0 or more.
func many(n int, read, wrote func(no int) (int, int64)) []api.Event {
	var l []api.Event
	for no := range n {
		l = append(l, api.Event{Kind: api.EvBegin, Thread: no, Attempt: 1})
		if obj, val := read(no); obj >= 0 {
			l = append(l, api.Event{Kind: api.EvRead, Thread: no, Attempt: 1, Obj: obj, Val: val})
		}
		if obj, val := wrote(no); obj >= 0 {
			l = append(l, api.Event{Kind: api.EvWrite, Thread: no, Attempt: 1, Obj: obj, Val: val})
		}
	}
	return l
}

// none is no object.
func none(int) (int, int64) { return -1, 0 }

// puttings are so many tries of further threads that commit, one behind the other: each writes the object and the value that it is told.
func puttings(from, n int, wrote func(no int) (int, int64)) []api.Event {
	var l []api.Event
	for no := range n {
		of := api.Event{Thread: from + no, Attempt: 1}
		of.Kind = api.EvBegin
		l = append(l, of)
		of.Kind = api.EvWrite
		of.Obj, of.Val = wrote(no)
		l = append(l, of)
		of.Kind, of.Obj, of.Val = api.EvCommit, 0, 0
		l = append(l, of)
	}
	return l
}

// P19.1, P19.2: very many tries, very many states, and very many values, in time.
func TestLongTraces(t *testing.T) {
	const n = 50_000
	rising := func(no int) (int, int64) { return 0, int64(no) + 1 }
	// Each waits for another state.
	l := slices.Concat(many(n, rising, none), puttings(n, n, rising))
	ps, e := opaque.Seen([]int64{0}, l)
	if e != api.OK || len(ps) != 2*n || ps[0] != 1 || ps[n-1] != n || ps[n] != 0 || ps[2*n-1] != n-1 {
		t.Errorf("%d, error %d", len(ps), e)
	}
	turns, e := opaque.Order([]int64{0}, l)
	if e != api.OK || len(turns) != 2*n || turns[0] != n || turns[1] != 0 || turns[2] != n+1 || turns[2*n-1] != n-1 {
		t.Errorf("%d, error %d", len(turns), e)
	}
	// All wait for what never comes.
	l = slices.Concat(many(n, func(int) (int, int64) { return 0, -1 }, none), puttings(n, n, rising))
	if no, e := opaque.Check([]int64{0}, l); no != 0 || e != api.ErrState {
		t.Errorf("%d, error %d", no, e)
	}
	// All are open at once, and commit, the last one first; of the first ones to end each makes a state, in which there are as many values.
	own := func(no int) (int, int64) { return no, int64(no) }
	l = many(n, func(no int) (int, int64) { return no, 0 }, own)
	for no := range n {
		l = append(l, api.Event{Kind: api.EvCommit, Thread: n - 1 - no, Attempt: 1})
	}
	turns, e = opaque.Order(make([]int64, n), l)
	if e != api.OK || len(turns) != n || turns[0] != n-1 || turns[n-1] != 0 {
		t.Errorf("%d, error %d", len(turns), e)
	}
}
