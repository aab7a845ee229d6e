package desc_test

import (
	"math"
	"testing"

	"quarrel/api"
	"quarrel/arena"
	"quarrel/desc"
)

// roomFor is an empty arena, with which a test can go on.
func roomFor(t *testing.T, n int) *arena.Arena[api.Rec] {
	t.Helper()
	a, e := arena.New[api.Rec](n)
	if a == nil || e != api.OK {
		t.Fatalf("an arena of %d: error %d", n, e)
	}
	return a
}

// on is a table on an arena, with which a test can go on.
func on(t *testing.T, a *arena.Arena[api.Rec]) *desc.Table {
	t.Helper()
	table, e := desc.New(a)
	if table == nil || e != api.OK {
		t.Fatalf("New: a table: %v, error %d", table != nil, e)
	}
	return table
}

// begin begins a descriptor, and asks for the number that it must have.
func begin(t *testing.T, table *desc.Table, five [5]int, want int) {
	t.Helper()
	if id, e := table.Begin(five[0], five[1], five[2], five[3], five[4]); id != want || e != api.OK {
		t.Fatalf("Begin%v: %d, error %d, not %d", five, id, e, want)
	}
}

// has is what a table must tell of a descriptor.
type has struct {
	status   api.Status
	priority int
	waiting  bool
	five     [5]int
}

// check asks a table for all that it tells of a descriptor.
func check(t *testing.T, table *desc.Table, id int, want has) {
	t.Helper()
	if s := table.Status(id); s != want.status {
		t.Errorf("Status(%d): %d, not %d", id, s, want.status)
	}
	if n := table.Priority(id); n != want.priority {
		t.Errorf("Priority(%d): %d, not %d", id, n, want.priority)
	}
	if w := table.Waiting(id); w != want.waiting {
		t.Errorf("Waiting(%d): %v", id, w)
	}
	f := want.five
	record := api.Rec{Kind: api.Descriptor, Thread: f[0], Txn: f[1], Attempt: f[2], Stamp: f[3]}
	if r, e := table.Rec(id); r != record || e != api.OK {
		t.Errorf("Rec(%d): %v, error %d, not %v", id, r, e, record)
	}
}

// checkNone asks a table of a number that no descriptor of it has, and tries to change what isn't there.
func checkNone(t *testing.T, table *desc.Table, id int) {
	t.Helper()
	for range 2 {
		if s := table.Status(id); s != 0 {
			t.Errorf("none: Status(%d): %d", id, s)
		}
		if n := table.Priority(id); n != 0 {
			t.Errorf("none: Priority(%d): %d", id, n)
		}
		if table.Waiting(id) {
			t.Errorf("none: Waiting(%d)", id)
		}
		if r, e := table.Rec(id); r != (api.Rec{}) || e != api.ErrNone {
			t.Errorf("none: Rec(%d): %v, error %d", id, r, e)
		}
		for _, to := range statuses() {
			if table.Turn(id, to) {
				t.Errorf("none: Turn(%d, %d): true", id, to)
			}
		}
		if e := table.Raise(id); e != api.ErrNone {
			t.Errorf("none: Raise(%d): error %d", id, e)
		}
		for _, w := range []bool{true, false} {
			if e := table.Wait(id, w); e != api.ErrNone {
				t.Errorf("none: Wait(%d, %v): error %d", id, w, e)
			}
		}
	}
}

// statuses are those that there are, the edges of them, and others.
func statuses() []api.Status {
	return []api.Status{api.Active, api.Committed, api.Aborted, 0, 4, -1, -2, 5, 255, 258, math.MaxInt, math.MinInt, math.MinInt + 2}
}

// ends are the statuses to which one can turn.
func ends() []api.Status { return []api.Status{api.Committed, api.Aborted} }

// isEnd says whether one can turn to a status.
func isEnd(s api.Status) bool { return s == api.Committed || s == api.Aborted }

// P3.1: a new table has no descriptors, whatever stands in the arena, and puts nothing there.
func TestNew(t *testing.T) {
	a := roomFor(t, 3)
	a.Put(api.Rec{Kind: api.Descriptor, Thread: 1})
	table := on(t, a)
	if n := table.Count(); n != 0 {
		t.Error("Count:", n)
	}
	if a.Len() != 1 {
		t.Error("New put records:", a.Len())
	}
	for id := -1; id < 4; id++ {
		checkNone(t, table, id)
	}
}

// P3.1: there is no table on a nil arena.
func TestNewOfNilArena(t *testing.T) {
	if table, e := desc.New(nil); table != nil || e != api.ErrNone {
		t.Errorf("New(nil): a table: %v, error %d", table != nil, e)
	}
}

// fives are what descriptors can be begun of, 0 and the greatest numbers with them.
func fives() [][5]int {
	return [][5]int{
		{0, 0, 1, 7, 0}, {0, 0, 0, 0, 0}, {5, 5, 9, 254, 3}, {1, 2, 3, 4, 5}, {5, 4, 3, 2, 1},
		{1, 0, 0, 0, 0}, {0, 1, 0, 0, 0}, {0, 0, 1, 0, 0}, {0, 0, 0, 1, 0}, {0, 0, 0, 0, 1},
		{6, 6, 6, 255, 64}, {1000, 2000, 3000, 4000, 5000},
		{math.MaxInt, math.MaxInt, math.MaxInt, math.MaxInt, math.MaxInt},
	}
}

// P3.1: of numbers that aren't below 0 a descriptor begins Active, with its priority, not waiting; its record stands in the arena.
func TestBegin(t *testing.T) {
	a := roomFor(t, len(fives()))
	table := on(t, a)
	for id, five := range fives() {
		checkNone(t, table, id)
		begin(t, table, five, id)
		check(t, table, id, has{api.Active, five[4], false, five})
		if n := table.Count(); n != id+1 {
			t.Errorf("Count: %d, not %d", n, id+1)
		}
		want := api.Rec{Kind: 3, Thread: five[0], Txn: five[1], Attempt: five[2], Stamp: five[3]}
		if r, e := a.At(id); r != want || e != api.OK || a.Len() != id+1 {
			t.Errorf("the arena's %d of %d: %v, error %d, not %v", id, a.Len(), r, e, want)
		}
	}
	for id, five := range fives() {
		check(t, table, id, has{api.Active, five[4], false, five})
	}
}

// P3.1: each of the five that is below 0 is refused, alone and with others, and nothing is put.
func TestBeginBelowZero(t *testing.T) {
	a := roomFor(t, 40)
	table := on(t, a)
	begin(t, table, [5]int{1, 2, 3, 4, 5}, 0)
	for _, below := range []int{-1, -2, -255, math.MinInt32, math.MinInt} {
		for which := 1; which < 1<<5; which++ {
			five := [5]int{0, 1, 2, 3, 4}
			for i := range five {
				if which>>i&1 == 1 {
					five[i] = below
				}
			}
			if id, e := table.Begin(five[0], five[1], five[2], five[3], five[4]); id != 0 || e != api.ErrArg {
				t.Errorf("Begin%v: %d, error %d", five, id, e)
			}
			if table.Count() != 1 || a.Len() != 1 {
				t.Fatalf("Begin%v: %d descriptors, %d records", five, table.Count(), a.Len())
			}
		}
	}
	checkNone(t, table, 1)
	check(t, table, 0, has{api.Active, 5, false, [5]int{1, 2, 3, 4, 5}})
	begin(t, table, [5]int{0, 0, 0, 0, 0}, 1)
}

// P3.1: where the arena is full, by descriptors or by other records, none begins, and those that are there stand; what is below 0 is told first.
func TestBeginInFullArena(t *testing.T) {
	for descriptors := range 4 {
		a := roomFor(t, 3)
		table := on(t, a)
		for id := range descriptors {
			begin(t, table, [5]int{id, 1, 2, 3, 4}, id)
		}
		for a.Left() > 0 {
			a.Put(api.Rec{Kind: api.Version, Val: 9})
		}
		for range 2 {
			if id, e := table.Begin(0, 0, 0, 0, 0); id != 0 || e != api.ErrFull {
				t.Errorf("full: Begin: %d, error %d", id, e)
			}
			if id, e := table.Begin(0, 0, 0, 0, -1); id != 0 || e != api.ErrArg {
				t.Errorf("full: Begin, of a priority below 0: %d, error %d", id, e)
			}
			if table.Count() != descriptors || a.Len() != 3 {
				t.Errorf("full: %d descriptors, %d records", table.Count(), a.Len())
			}
		}
		for id := range 4 {
			if id < descriptors {
				check(t, table, id, has{api.Active, 4, false, [5]int{id, 1, 2, 3, 4}})
			} else {
				checkNone(t, table, id)
			}
		}
	}
}

// P3.1: the number is the record's, so those of other records are passed over.
func TestNumbersAmongOtherRecords(t *testing.T) {
	a := roomFor(t, 20)
	table := on(t, a)
	for i := range 10 {
		a.Put(api.Rec{Kind: 1 + i%3, Val: int64(i), Thread: 4})
		begin(t, table, [5]int{i, i, i, i, i}, 2*i+1)
	}
	if n := table.Count(); n != 10 {
		t.Error("Count:", n)
	}
	for i := range 10 {
		checkNone(t, table, 2*i)
		check(t, table, 2*i+1, has{api.Active, i, false, [5]int{i, i, i, i, i}})
	}
}

// P3.1, P3.3: two tables on one arena have each its own descriptors.
func TestTablesApart(t *testing.T) {
	a := roomFor(t, 4)
	one, two := on(t, a), on(t, a)
	begin(t, one, [5]int{1, 1, 1, 1, 1}, 0)
	begin(t, two, [5]int{2, 2, 2, 2, 2}, 1)
	checkNone(t, two, 0)
	checkNone(t, one, 1)
	if one.Count() != 1 || two.Count() != 1 {
		t.Error("Count:", one.Count(), two.Count())
	}
	three := on(t, roomFor(t, 4))
	begin(t, three, [5]int{3, 3, 3, 3, 3}, 0)
	if !three.Turn(0, api.Aborted) {
		t.Error("Turn: false")
	}
	check(t, one, 0, has{api.Active, 1, false, [5]int{1, 1, 1, 1, 1}})
}

// P3.2: numbers of no descriptor have nothing that can be told or changed, those of records that are there with them.
func TestNoDescriptor(t *testing.T) {
	a := roomFor(t, 10)
	table := on(t, a)
	a.Put(api.Rec{Kind: api.Version, Val: 5})
	a.Put(api.Rec{Kind: api.Locator, Owner: -1})
	a.Put(api.Rec{Kind: api.Descriptor, Thread: 1, Txn: 1, Attempt: 1, Stamp: 1})
	a.Put(api.Rec{})
	five := [5]int{1, 2, 3, 4, 5}
	begin(t, table, five, 4)
	for _, id := range []int{0, 1, 2, 3, 5, 9, 10, -1, -4, -5, 4096, math.MaxInt32, math.MinInt32, math.MaxInt, math.MinInt} {
		checkNone(t, table, id)
	}
	check(t, table, 4, has{api.Active, 5, false, five})
	if table.Count() != 1 || a.Len() != 5 {
		t.Errorf("%d descriptors, %d records", table.Count(), a.Len())
	}
}

// P3.2: one that is Active turns to Committed or Aborted, and to nothing else; what it doesn't turn to leaves it as it is.
func TestTurn(t *testing.T) {
	five := [5]int{1, 2, 3, 4, 5}
	for _, to := range statuses() {
		for _, waiting := range []bool{false, true} {
			table := on(t, roomFor(t, 1))
			begin(t, table, five, 0)
			table.Wait(0, waiting)
			if got := table.Turn(0, to); got != isEnd(to) {
				t.Errorf("Turn to %d: %v", to, got)
			}
			want := has{api.Active, 5, waiting, five}
			if isEnd(to) {
				want.status = to
			}
			check(t, table, 0, want)
		}
	}
}

// P3.2, P3.4: one that turned turns no more, to no status, its own one with them.
func TestTurnedTurnsNoMore(t *testing.T) {
	five := [5]int{0, 1, 2, 3, 4}
	for _, first := range ends() {
		table := on(t, roomFor(t, 1))
		begin(t, table, five, 0)
		if !table.Turn(0, first) {
			t.Fatalf("Turn to %d: false", first)
		}
		for range 2 {
			for _, to := range statuses() {
				if table.Turn(0, to) {
					t.Errorf("turned to %d: Turn to %d: true", first, to)
				}
				check(t, table, 0, has{first, 4, false, five})
			}
		}
	}
}

// P3.2: a priority is raised by one, each time, and goes round behind the greatest int.
func TestRaise(t *testing.T) {
	for _, first := range []int{0, 1, 7, math.MaxInt32, math.MaxInt - 2, math.MaxInt - 1, math.MaxInt} {
		table := on(t, roomFor(t, 1))
		five := [5]int{3, 2, 1, 0, first}
		begin(t, table, five, 0)
		want := first
		for range 5 {
			if e := table.Raise(0); e != api.OK {
				t.Errorf("Raise: error %d", e)
			}
			want++
			check(t, table, 0, has{api.Active, want, false, five})
		}
	}
	table := on(t, roomFor(t, 1))
	begin(t, table, [5]int{0, 0, 0, 0, math.MaxInt}, 0)
	if e := table.Raise(0); e != api.OK || table.Priority(0) != math.MinInt {
		t.Errorf("Raise of the greatest: error %d, %d", e, table.Priority(0))
	}
}

// P3.2: one is waiting, or not, as was said last, once or many times.
func TestWait(t *testing.T) {
	table := on(t, roomFor(t, 1))
	five := [5]int{1, 1, 1, 1, 1}
	begin(t, table, five, 0)
	for _, w := range []bool{false, true, true, false, false, true, false, true, true, true, false} {
		if e := table.Wait(0, w); e != api.OK {
			t.Errorf("Wait(%v): error %d", w, e)
		}
		for range 2 {
			check(t, table, 0, has{api.Active, 1, w, five})
		}
	}
}

// P3.2: of one that isn't Active any more neither the priority nor the waiting changes; both stay as they were when it turned.
func TestTurnedStays(t *testing.T) {
	five := [5]int{1, 2, 3, 4, 5}
	for _, end := range ends() {
		for _, waiting := range []bool{false, true} {
			table := on(t, roomFor(t, 1))
			begin(t, table, five, 0)
			table.Raise(0)
			table.Wait(0, waiting)
			table.Turn(0, end)
			for range 2 {
				if e := table.Raise(0); e != api.ErrState {
					t.Errorf("turned to %d: Raise: error %d", end, e)
				}
				for _, w := range []bool{!waiting, waiting, !waiting} {
					if e := table.Wait(0, w); e != api.ErrState {
						t.Errorf("turned to %d: Wait(%v): error %d", end, w, e)
					}
				}
				check(t, table, 0, has{end, 6, waiting, five})
			}
		}
	}
}

// P3.2: a turn that is none leaves a descriptor Active, so that it can be raised and be waiting.
func TestStillActive(t *testing.T) {
	for _, to := range statuses() {
		if isEnd(to) {
			continue
		}
		table := on(t, roomFor(t, 1))
		begin(t, table, [5]int{0, 0, 0, 0, 0}, 0)
		table.Turn(0, to)
		if e := table.Raise(0); e != api.OK {
			t.Errorf("behind a turn to %d: Raise: error %d", to, e)
		}
		if e := table.Wait(0, true); e != api.OK {
			t.Errorf("behind a turn to %d: Wait: error %d", to, e)
		}
		if !table.Turn(0, api.Committed) {
			t.Errorf("behind a turn to %d: Turn: false", to)
		}
	}
}

// P3.2: what is done to one descriptor plays no part for others.
func TestDescriptorsApart(t *testing.T) {
	table := on(t, roomFor(t, 3))
	fives := [][5]int{{0, 1, 2, 3, 4}, {1, 1, 2, 3, 4}, {2, 1, 2, 3, 4}}
	for id, five := range fives {
		begin(t, table, five, id)
	}
	table.Raise(1)
	table.Wait(1, true)
	check(t, table, 0, has{api.Active, 4, false, fives[0]})
	check(t, table, 1, has{api.Active, 5, true, fives[1]})
	check(t, table, 2, has{api.Active, 4, false, fives[2]})
	table.Turn(1, api.Aborted)
	check(t, table, 0, has{api.Active, 4, false, fives[0]})
	check(t, table, 1, has{api.Aborted, 5, true, fives[1]})
	check(t, table, 2, has{api.Active, 4, false, fives[2]})
	table.Turn(2, api.Committed)
	table.Raise(0)
	check(t, table, 0, has{api.Active, 5, false, fives[0]})
	check(t, table, 1, has{api.Aborted, 5, true, fives[1]})
	check(t, table, 2, has{api.Committed, 4, false, fives[2]})
}

// P3.3: those that turned count still, and their records stand, whatever was done to them.
func TestCountAndRecordsStand(t *testing.T) {
	a := roomFor(t, 4096)
	table := on(t, a)
	five := func(id int) [5]int { return [5]int{id % 6, id % 5, id / 2, 255 - id%256, id} }
	for id := range 4096 {
		begin(t, table, five(id), id)
		switch id % 4 {
		case 1:
			table.Turn(id, api.Committed)
		case 2:
			table.Turn(id, api.Aborted)
		case 3:
			table.Raise(id)
			table.Wait(id, true)
		}
		if n := table.Count(); n != id+1 {
			t.Fatalf("Count: %d, not %d", n, id+1)
		}
	}
	for id := range 4096 {
		more := id % 4 / 3
		status := []api.Status{api.Active, api.Committed, api.Aborted, api.Active}[id%4]
		check(t, table, id, has{status, id + more, more == 1, five(id)})
	}
	checkNone(t, table, 4096)
}

// P3.3: what is told of a record is apart from it.
func TestRecordIsApart(t *testing.T) {
	table := on(t, roomFor(t, 1))
	five := [5]int{1, 2, 3, 4, 5}
	begin(t, table, five, 0)
	r, _ := table.Rec(0)
	r.Kind, r.Thread, r.Stamp = api.Version, 9, 9
	check(t, table, 0, has{api.Active, 5, false, five})
}

// P3.3: a nil table has nothing, and begins nothing, whatever it is asked.
func TestNilTable(t *testing.T) {
	var table *desc.Table
	for range 2 {
		for _, id := range []int{0, 1, -1, math.MaxInt, math.MinInt} {
			checkNone(t, table, id)
		}
		for _, five := range [][5]int{{0, 0, 1, 7, 0}, {-1, 0, 0, 0, 0}, {0, 0, 0, 0, -1}, {-1, -1, -1, -1, -1}} {
			if id, e := table.Begin(five[0], five[1], five[2], five[3], five[4]); id != 0 || e != api.ErrNone {
				t.Errorf("nil: Begin%v: %d, error %d", five, id, e)
			}
		}
		if n := table.Count(); n != 0 {
			t.Error("nil: Count:", n)
		}
	}
}

// P3.4: of all that turn a descriptor just one does, the first one, whatever they turn it to, and in whatever order.
func TestOneTurns(t *testing.T) {
	for length := 1; length <= 6; length++ {
		for order := range 1 << length {
			table := on(t, roomFor(t, 1))
			begin(t, table, [5]int{0, 0, 1, 7, 0}, 0)
			turned := 0
			for i := range length {
				if table.Turn(0, ends()[order>>i&1]) {
					turned++
				}
			}
			if turned != 1 {
				t.Errorf("%d turns, order %d: %d are true", length, order, turned)
			}
			if s := table.Status(0); s != ends()[order&1] {
				t.Errorf("%d turns, order %d: Status: %d", length, order, s)
			}
		}
	}
}

// P3.4, P3.2: all short sequences of calls on a descriptor answer what a plain record of it does.
func TestSequences(t *testing.T) {
	const calls, length = 6, 5
	all := 1
	for range length {
		all *= calls
	}
	five := [5]int{0, 0, 1, 7, math.MaxInt - 1}
	for sequence := range all {
		table := on(t, roomFor(t, 1))
		begin(t, table, five, 0)
		want := has{api.Active, five[4], false, five}
		for rest, step := sequence, 0; step < length; rest, step = rest/calls, step+1 {
			want = doBoth(t, table, want, rest%calls)
			check(t, table, 0, want)
		}
		if t.Failed() {
			t.Fatal("sequence", sequence)
		}
	}
}

// doBoth makes a call on descriptor 0, and answers what the table must have of it then.
func doBoth(t *testing.T, table *desc.Table, was has, call int) has {
	t.Helper()
	active, e := was.status == api.Active, api.OK
	will := was
	switch call {
	case 0:
		e = table.Raise(0)
		will.priority++
	case 1, 2:
		e = table.Wait(0, call == 1)
		will.waiting = call == 1
	default:
		to := api.Status(call - 2)
		if got := table.Turn(0, to); got != (active && isEnd(to)) {
			t.Errorf("Turn to %d, of %d: %v", to, was.status, got)
		}
		if active && isEnd(to) {
			will.status = to
		}
	}
	if active {
		if e != api.OK {
			t.Errorf("call %d: error %d", call, e)
		}
		return will
	}
	if call < 3 && e != api.ErrState {
		t.Errorf("call %d, turned: error %d", call, e)
	}
	return was
}

// P3.2, P3.4, the chapter's example.
func TestExample(t *testing.T) {
	table := on(t, roomFor(t, 4))
	id, e := table.Begin(0, 0, 1, 7, 0)
	if e != api.OK || table.Status(id) != api.Active {
		t.Errorf("Begin: error %d, status %d", e, table.Status(id))
	}
	if !table.Turn(id, api.Aborted) {
		t.Error("Turn to Aborted: false")
	}
	if table.Turn(id, api.Committed) {
		t.Error("Turn to Committed: true")
	}
	if s := table.Status(id); s != api.Aborted {
		t.Error("Status:", s)
	}
}
