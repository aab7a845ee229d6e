package attempt_test

import (
	"fmt"
	"slices"
	"testing"

	"quarrel/api"
	"quarrel/attempt"
	"quarrel/floor"
	"quarrel/gate"
)

// dice are numbers that look as if they were thrown.
type dice uint32

// to is one from 0 to one below n.
func (d *dice) to(n int) int {
	*d = *d*1664525 + 1013904223
	return int(*d>>8) % n
}

// hand is a thread of a test: its transactions, each tried till it commits, or wants for room.
type hand struct {
	f       *floor.Floor
	no      int
	txns    [][]api.Op
	txn     int
	tries   int
	id      int
	memory  *attempt.Memory
	at      interface{ Step() bool }
	begin   func(h *hand, stamp int) interface{ Step() bool }
	status  func(h *hand) (api.Status, int)
	commits int
	full    bool
}

// stamp is that of the transaction at hand: no two have the same.
func (h *hand) stamp() int { return h.txn*api.MaxThreads + h.no }

// done says whether all transactions ended.
func (h *hand) done() bool { return h.full || h.txn == len(h.txns) }

// pick makes a step: a beginning, or the attempt's next one.
func (h *hand) pick() {
	if h.done() {
		return
	}
	h.f.Gate().Beat(h.no)
	if h.at == nil {
		h.start()
		return
	}
	h.at.Step()
	status, reason := h.status(h)
	switch {
	case status == api.Active:
	case status == api.Committed:
		h.commits++
		h.leave()
	case reason == api.Memory:
		h.leave()
	default:
		h.memory.Troubled, h.at = true, nil
	}
}

// start is the beginning of an attempt.
func (h *hand) start() {
	if h.tries == 0 {
		h.memory = attempt.Fresh()
	}
	h.tries++
	id, e := h.f.Table().Begin(h.no, h.txn, h.tries, h.stamp(), h.memory.Raised)
	if e != api.OK {
		h.full = true
		h.f.Gate().Leave(h.stamp(), h.no)
		return
	}
	h.id = id
	h.f.Note(api.Event{Kind: api.EvBegin, Thread: h.no, Txn: h.txn, Attempt: h.tries, Val: int64(h.stamp())})
	h.at = h.begin(h, h.stamp())
}

// leave is the end of a transaction.
func (h *hand) leave() {
	h.f.Gate().Leave(h.stamp(), h.no)
	h.txn, h.tries, h.at = h.txn+1, 0, nil
}

// real lets a hand do attempts.
func real(h *hand) {
	h.begin = func(h *hand, stamp int) interface{ Step() bool } {
		a, e := attempt.Begin(h.f, h.no, h.txn, h.tries, h.id, stamp, h.txns[h.txn], h.memory)
		if e != api.OK {
			panic(e)
		}
		return a
	}
	h.status = func(h *hand) (api.Status, int) { return h.at.(*attempt.Attempt).Status() }
}

// modelled lets a hand do the model's.
func modelled(t *testing.T) func(h *hand) {
	return func(h *hand) {
		h.begin = func(h *hand, stamp int) interface{ Step() bool } {
			a := modelOf(h.f, h.no, h.txn, h.tries, h.id, stamp, h.txns[h.txn], h.memory)
			t.Cleanup(a.stop)
			return a
		}
		h.status = func(h *hand) (api.Status, int) { a := h.at.(*model); return a.status, a.reason }
	}
}

// hands are as many threads as a config has, on a floor of their own.
func hands(t *testing.T, c api.Config, first []int64, draws []byte, txns [][][]api.Op, how func(h *hand)) []*hand {
	t.Helper()
	f, e := floor.New(c, first, draws)
	if e != api.OK {
		t.Fatalf("New: error %d", e)
	}
	var l []*hand
	for no := range c.Threads {
		h := &hand{f: f, no: no, txns: txns[no]}
		how(h)
		l = append(l, h)
	}
	return l
}

// alldone says whether all are done.
func alldone(l []*hand) bool {
	return !slices.ContainsFunc(l, func(h *hand) bool { return !h.done() })
}

// thrown says which transactions are thrown: whether they release, and whether they write an object that they wrote.
type thrown struct{ releases, again bool }

// transaction is one that is thrown.
func (d *dice) transaction(objects int, of thrown) []api.Op {
	var l []api.Op
	for range 1 + d.to(api.MaxOps) {
		o := api.Op{Kind: []int{api.Read, api.Read, api.Write, api.Write, api.Add, api.Set, api.Release}[d.to(7)]}
		if o.Kind == api.Release && !of.releases {
			o.Kind = api.Read
		}
		switch o.Kind {
		case api.Set, api.Add:
			o.Arg = int64(d.to(256) - 128)
		default:
			o.Obj = d.to(objects)
		}
		if o.Kind == api.Write && !of.again && slices.Contains(l, o) {
			o.Kind = api.Read
		}
		l = append(l, o)
	}
	return l
}

// crowd is a config, and what there is beside it, that are thrown.
func (d *dice) crowd(of thrown) (api.Config, []int64, []byte, [][][]api.Op) {
	c := api.Config{Objects: 1 + d.to(3), Threads: 1 + d.to(4), Records: 3000, Manager: 1 + d.to(4), Wait: 1 + d.to(8)}
	var first []int64
	for range c.Objects {
		first = append(first, int64(d.to(200)-100))
	}
	var draws []byte
	for range d.to(5) {
		draws = append(draws, byte(d.to(256)))
	}
	var all [][][]api.Op
	for range c.Threads {
		var txns [][]api.Op
		for range 1 + d.to(3) {
			txns = append(txns, d.transaction(c.Objects, of))
		}
		all = append(all, txns)
	}
	return c, first, draws, all
}

// picks are as many as is asked for: threads at random, now and then one of them for long.
func (d *dice) picks(threads, n int) []int {
	var l []int
	for len(l) < n {
		thread, times := d.to(threads), 1
		if d.to(10) == 0 {
			times = 1 + d.to(40)
		}
		for range times {
			l = append(l, thread)
		}
	}
	return l
}

// seen is all that can be seen of a floor and of a hand's attempt, in words.
func (h *hand) seen() string {
	s := &scene{Floor: h.f}
	v := &view{of: map[string]string{}}
	(&actor{scene: s}).viewFloor(v)
	text := fmt.Sprint(v.of, h.f.Trace(), h.txn, h.tries, h.id, h.memory != nil && h.memory.Troubled)
	if h.memory != nil {
		text += fmt.Sprintf("%+v", *h.memory)
	}
	switch a := h.at.(type) {
	case *attempt.Attempt:
		status, reason := a.Status()
		text += fmt.Sprint(status, reason, a.Sum(), a.Steps(), a.Set().Readings(), a.Set().Owns())
	case *model:
		text += fmt.Sprint(a.status, a.reason, a.sum, a.steps, a.set.Readings(), a.set.Owns())
	}
	return text
}

// P14.2: long rows of picks of many threads, each step held against what the chapter says; now and then somebody is aborted from outside.
func TestAgainstTheModel(t *testing.T) {
	for seed := range 400 {
		d := dice(seed*7919 + 3)
		c, first, draws, all := d.crowd(thrown{releases: true, again: true})
		if seed%3 == 0 {
			c.Records = 2*c.Objects + 1 + d.to(60) // often too few
		}
		got, want := hands(t, c, first, draws, all, real), hands(t, c, first, draws, all, modelled(t))
		for n, p := range d.picks(c.Threads, 1500) {
			got[p].pick()
			want[p].pick()
			if d.to(60) == 0 {
				h := d.to(c.Threads)
				got[h].f.Table().Turn(got[h].id, api.Aborted)
				want[h].f.Table().Turn(want[h].id, api.Aborted)
			}
			// To put all in words takes long: of most steps what was told is enough.
			if n%7 == 0 || n < 60 {
				if a, b := got[p].seen(), want[p].seen(); a != b {
					t.Fatalf("the seed %d, %+v, %+v, the pick %d of %d:\n%s\nnot\n%s", seed, c, all, n, p, a, b)
				}
			}
			if alldone(got) {
				break
			}
		}
		for i := range got {
			if a, b := got[i].seen(), want[i].seen(); a != b {
				t.Fatalf("the seed %d, behind all, %d:\n%s\nnot\n%s", seed, i, a, b)
			}
		}
	}
}

// ended lets each hand be picked alone, till it is done: in turn they may get into each other's way as long as there is room.
func ended(t *testing.T, l []*hand) {
	t.Helper()
	for _, h := range l {
		for n := 0; !h.done(); n++ {
			if n > 20_000 {
				t.Fatalf("by the manager %d the thread %d doesn't end alone", h.f.Config().Manager, h.no)
			}
			h.pick()
		}
		if h.commits != len(h.txns) {
			t.Fatalf("by the manager %d the thread %d: %d commits", h.f.Config().Manager, h.no, h.commits)
		}
	}
}

// P14.3: what is there at the end is what those that committed make of the first values alone, one behind the other, by any manager and picks.
func TestCommittedInOrder(t *testing.T) {
	for seed := range 1000 {
		d := dice(seed*104729 + 11)
		of := thrown{again: seed%2 == 0}
		c, first, draws, all := d.crowd(of)
		l := hands(t, c, first, draws, all, real)
		for _, p := range d.picks(c.Threads, 100+d.to(500)) {
			l[p].pick()
		}
		checkOrder(t, l[0].f, first, all)
		ended(t, l)
		checkOrder(t, l[0].f, first, all)
		if !of.again {
			checkSeen(t, l[0].f, first)
		}
	}
}

// checkOrder does the transactions that committed alone, in the order of their commits.
func checkOrder(t *testing.T, f *floor.Floor, first []int64, all [][][]api.Op) {
	t.Helper()
	values := slices.Clone(first)
	for _, e := range f.Trace() {
		if e.Kind == api.EvCommit {
			values = alone(t, all[e.Thread][e.Txn], values)
		}
	}
	if !slices.Equal(f.Values(), values) {
		t.Fatalf("the manager %d: Values: %v, not %v", f.Config().Manager, f.Values(), values)
	}
}

// tried is what a trace tells of an attempt so far: how many commits there were at its beginning, and what it wrote and read.
type tried struct {
	began       int
	wrote, read map[int]int64
}

// checkSeen asks of each attempt that released nothing whether it read objects as they were together at one moment, whether it committed or not.
func checkSeen(t *testing.T, f *floor.Floor, first []int64) {
	t.Helper()
	states, all := [][]int64{slices.Clone(first)}, map[[3]int]*tried{}
	for _, e := range f.Trace() {
		k := [3]int{e.Thread, e.Txn, e.Attempt}
		a, last := all[k], len(states)-1
		switch e.Kind {
		case api.EvBegin:
			all[k] = &tried{last, map[int]int64{}, map[int]int64{}}
		case api.EvWrite:
			a.wrote[e.Obj] = e.Val
		case api.EvRead:
			was, twice := a.wrote[e.Obj]
			if !twice {
				was, twice = a.read[e.Obj]
			}
			if twice && was != e.Val {
				t.Fatalf("%+v, but there was %d", e, was)
			}
			if _, own := a.wrote[e.Obj]; !own {
				a.read[e.Obj] = e.Val
				together(t, k, states[a.began:], a.read)
			}
		case api.EvCommit:
			together(t, k, states[last:], a.read)
			next := slices.Clone(states[last])
			for obj, v := range a.wrote {
				next[obj] = v
			}
			states = append(states, next)
		}
	}
}

// together asks whether what was read is of one of the states.
func together(t *testing.T, k [3]int, states [][]int64, read map[int]int64) {
	t.Helper()
	for _, values := range states {
		fits := true
		for obj, v := range read {
			fits = fits && values[obj] == v
		}
		if fits {
			return
		}
	}
	t.Fatalf("the try %v read %v, which was never there: %v", k, read, states)
}

// P14.3: what is counted is counted: threads that add to one object, at any picks.
func TestCounted(t *testing.T) {
	for _, manager := range managers() {
		for seed := range 60 {
			d := dice(seed*31 + manager)
			c := api.Config{Objects: 1, Threads: 4, Records: 4000, Manager: manager, Wait: 4}
			var all [][][]api.Op
			for range c.Threads {
				all = append(all, [][]api.Op{ops("r0 +1 w0"), ops("r0 +1 w0"), ops("r0 +1 w0")})
			}
			l := hands(t, c, []int64{5}, []byte{1, 9, 4}, all, real)
			for _, p := range d.picks(c.Threads, 300) {
				l[p].pick()
			}
			ended(t, l)
			if v := l[0].f.Values(); v[0] != 5+12 {
				t.Errorf("the manager %d: %v", manager, v)
			}
		}
	}
}

// P14.3: sums that are moved stay, and are read together, at each moment.
func TestMoved(t *testing.T) {
	for _, manager := range managers() {
		for seed := range 40 {
			d := dice(seed*17 + manager)
			c := api.Config{Objects: 3, Threads: 3, Records: 4000, Manager: manager, Wait: 3}
			all := [][][]api.Op{
				{ops("r0 -5 w0 r1 +5 w1"), ops("r0 -2 w0 r2 +2 w2")},
				{ops("r1 -3 w1 r2 +3 w2"), ops("r2 -7 w2 r0 +7 w0")},
				{ops("r0 r1 r2"), ops("r2 r1 r0")},
			}
			l := hands(t, c, []int64{10, 20, 30}, nil, all, real)
			for _, p := range d.picks(c.Threads, 500) {
				l[p].pick()
				if v := l[0].f.Values(); v[0]+v[1]+v[2] != 60 {
					t.Fatalf("the manager %d: %v", manager, v)
				}
			}
			ended(t, l)
			checkSeen(t, l[0].f, []int64{10, 20, 30})
		}
	}
}

// P14.3: an attempt alone commits, whoever stands still around it, and whatever they hold; the values of those aren't seen.
func TestAloneAmongOthers(t *testing.T) {
	for seed := range 400 {
		d := dice(seed*613 + 5)
		c, first, draws, all := d.crowd(thrown{})
		l := hands(t, c, first, draws, all, real)
		for _, p := range d.picks(c.Threads, 20+d.to(120)) {
			l[p].pick()
		}
		at := d.to(len(l))
		ended(t, l[at:at+1])
		checkOrder(t, l[0].f, first, all)
		checkSeen(t, l[0].f, first)
	}
}

// P14.2: a locator that was loaded resolves by its owner's status, also where the owner put another one in its place and committed then: its New is seen, which wasn't left to anybody, and found out at the next opening, or at the claim.
func TestLocatorThatItsOwnerReplaced(t *testing.T) {
	for _, manager := range managers() {
		s := by(t, manager, 5, 6)
		writer := s.begin(0, "=7 w0 =8 w0")
		s.till(writer, "write 0 7")
		reader := s.begin(1, "r0")
		if manager == api.Greedy {
			reader.makes("-")
		}
		reader.makes("-") // load: the writer's first locator
		writer.run()
		s.values(8, 6)
		reader.makes("-")
		if manager == api.Karma {
			reader.makes("priority 7: 1, raised: 1")
		}
		reader.makes("sum: 7, reading 0: 5 7 true, read 0 7")
		reader.run()
		reader.is(api.Aborted, api.Invalid)
		// Who would write there is refused by the swap, and opens anew.
		s = by(t, api.Polite, 5, 6)
		writer, other := s.begin(0, "=7 w0 =8 w0"), s.begin(1, "=9 w0")
		s.till(writer, "write 0 7")
		other.quiet(2)
		writer.run()
		other.makes("-", "version 10: 9", "locator 11: 5 6 10", "troubled: true", "-", "-", "locator 12: 5 8 10", "cell 0: 12, own 0: 12 10 9 false true")
	}
}

// P14.2, P14.3: all interleavings of two attempts that get into each other's way, by each manager, each of them alone behind that.
func TestAllInterleavings(t *testing.T) {
	for _, manager := range managers() {
		for _, q := range [][2]string{{"r0 +1 w0", "r0 +2 w0"}, {"r0 w1", "r1 w0"}, {"w0 w1", "r0 r1"}} {
			for row := range 1 << 13 {
				interleave(t, manager, q, row)
			}
		}
	}
}

// interleave lets two attempts make steps by the bits of a row, and then each of them go on alone.
func interleave(t *testing.T, manager int, words [2]string, row int) {
	t.Helper()
	c := config(manager, 2)
	c.Threads, c.Wait = 2, 1
	all := [][][]api.Op{{ops(words[0])}, {ops(words[1])}}
	l := hands(t, c, []int64{5, 6}, nil, all, real)
	l[0].pick()
	l[1].pick()
	for range 13 {
		l[row&1].pick()
		row >>= 1
	}
	checkOrder(t, l[0].f, []int64{5, 6}, all)
	ended(t, l)
	checkOrder(t, l[0].f, []int64{5, 6}, all)
	checkSeen(t, l[0].f, []int64{5, 6})
	if x := l[0].f.Gate().See(); x != (gate.Sight{}) {
		t.Fatalf("See: %+v", x)
	}
}
