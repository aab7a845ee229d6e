package floor_test

import (
	"math"
	"slices"
	"testing"

	"quarrel/api"
	"quarrel/arena"
	"quarrel/cells"
	"quarrel/choice"
	"quarrel/desc"
	"quarrel/floor"
	"quarrel/gate"
	"quarrel/greedy"
	"quarrel/karma"
	"quarrel/polite"
	"quarrel/stamp"
)

// numbers are ordinary ones, those that are alike where something is cut, and the ends of what an int can be.
func numbers() []int {
	return []int{
		0, 1, 2, 3, 4, 5, 6, 7, 8, 9, 63, 64, 65, 127, 128, 254, 255, 256, 257, 4095, 4096, 4097, 65_535, 65_536,
		math.MaxInt32, math.MaxInt32 + 1, 1 << 32, 1<<32 + 1, math.MaxInt - 1, math.MaxInt,
		-1, -2, -3, -8, -128, -255, -256, math.MinInt32, -1 << 32, math.MinInt + 1, math.MinInt,
	}
}

// plain is a config that may be, with none of its numbers at an edge.
func plain() api.Config {
	return api.Config{Objects: 3, Threads: 2, Records: 40, Tickets: 5, Manager: api.Karma, Wait: 4}
}

// field is one of a config's, with the numbers that it may have.
type field struct {
	name        string
	of          func(c *api.Config) *int
	least, most int
}

// fields are all of them.
func fields() []field {
	return []field{
		{"Objects", func(c *api.Config) *int { return &c.Objects }, 1, 8},
		{"Threads", func(c *api.Config) *int { return &c.Threads }, 1, 6},
		{"Records", func(c *api.Config) *int { return &c.Records }, 1, 4096},
		{"Tickets", func(c *api.Config) *int { return &c.Tickets }, 0, 255},
		{"Manager", func(c *api.Config) *int { return &c.Manager }, 1, 4},
		{"Wait", func(c *api.Config) *int { return &c.Wait }, 1, 64},
	}
}

// lowest and greatest are the configs whose numbers are all at one edge.
func lowest() api.Config {
	return api.Config{Objects: 1, Threads: 1, Records: 1, Manager: 1, Wait: 1}
}

func greatest() api.Config {
	return api.Config{Objects: 8, Threads: 6, Records: 4096, Tickets: 255, Manager: 4, Wait: 64}
}

// values are so many first values, no two of which are alike.
func values(n int) []int64 {
	var l []int64
	for i := range n {
		l = append(l, int64(70-31*i))
	}
	return l
}

// with is a floor that there must be.
func with(t *testing.T, c api.Config, first []int64, draws []byte) *floor.Floor {
	t.Helper()
	f, e := floor.New(c, first, draws)
	if f == nil || e != api.OK {
		t.Fatalf("New(%+v, %v, %v): %v, error %d", c, first, draws, f != nil, e)
	}
	return f
}

// refused asks for a floor that there can't be.
func refused(t *testing.T, c api.Config, first []int64, draws []byte, want api.Errno) {
	t.Helper()
	if f, e := floor.New(c, first, draws); f != nil || e != want {
		t.Errorf("New(%+v, %v, %v): %v, error %d, not %d", c, first, draws, f != nil, e, want)
	}
}

// checkCheck asks whether a config may be, and whether there is a floor of it.
func checkCheck(t *testing.T, c api.Config, want bool) {
	t.Helper()
	if is := floor.Check(c); is != want {
		t.Errorf("Check(%+v): %v", c, is)
	}
	objects := min(max(c.Objects, 0), 9)
	switch {
	case !want:
		refused(t, c, values(objects), nil, api.ErrRange)
	case c.Records < 2*objects:
		refused(t, c, values(objects), nil, api.ErrFull)
	default:
		with(t, c, values(objects), nil)
	}
}

// checkValues asks for the objects' values, twice, so that asking changes nothing.
func checkValues(t *testing.T, f *floor.Floor, want ...int64) {
	t.Helper()
	for range 2 {
		if l := f.Values(); !slices.Equal(l, want) {
			t.Errorf("Values: %v, not %v", l, want)
		}
	}
}

// checkTrace asks for the events, twice, so that asking changes nothing.
func checkTrace(t *testing.T, f *floor.Floor, want ...api.Event) {
	t.Helper()
	for range 2 {
		if l := f.Trace(); !slices.Equal(l, want) {
			t.Errorf("Trace: %+v, not %+v", l, want)
		}
	}
}

// draws lets a thread draw, and asks for what it drew.
func draws(t *testing.T, f *floor.Floor, thread int, want ...int) {
	t.Helper()
	for i, n := range want {
		if d := f.Draw(thread); d != n {
			t.Errorf("Draw(%d), number %d: %d, not %d", thread, i, d, n)
		}
	}
}

// checkNew asks a floor that nothing was done to for all that it has, but tickets and draws.
func checkNew(t *testing.T, f *floor.Floor, c api.Config, first []int64) {
	t.Helper()
	if got := f.Config(); got != c {
		t.Errorf("Config: %+v, not %+v", got, c)
	}
	if a := f.Arena(); a.Len() != 2*c.Objects || a.Left() != c.Records-2*c.Objects {
		t.Errorf("Arena of %+v: %d, %d left", c, a.Len(), a.Left())
	}
	if n := f.Table().Count(); n != 0 {
		t.Errorf("Table of %+v: %d descriptors", c, n)
	}
	if n := f.Cells().Objects(); n != c.Objects {
		t.Errorf("Cells of %+v: %d objects", c, n)
	}
	if n := f.Tickets().Taken(); n != 0 {
		t.Errorf("Tickets of %+v: %d taken", c, n)
	}
	checkThreads(t, f.Gate(), c.Threads)
	checkTrace(t, f)
	checkValues(t, f, first...)
}

// checkThreads asks a gate that nothing was done to how many threads it has.
func checkThreads(t *testing.T, g *gate.Gate, threads int) {
	t.Helper()
	if x := g.See(); x != (gate.Sight{}) {
		t.Errorf("See: %+v", x)
	}
	for thread := -1; thread <= api.MaxThreads; thread++ {
		is := thread >= 0 && thread < threads
		if n := g.Pulse(thread); n != 0 {
			t.Errorf("Pulse(%d): %d", thread, n)
		}
		if g.Swap(gate.Sight{}, 3, thread) != is || g.Leave(3, thread) != is {
			t.Errorf("a gate of %d threads: is there %d?", threads, thread)
		}
	}
}

// take tells a row of tickets to its end, which is behind so many.
func take(t *testing.T, f *floor.Floor, most int) {
	t.Helper()
	for want := range most {
		if n, e := f.Tickets().Take(); n != want || e != api.OK {
			t.Fatalf("Take: %d, error %d, not %d", n, e, want)
		}
	}
	for range 2 {
		if n, e := f.Tickets().Take(); n != 0 || e != api.ErrExhausted {
			t.Fatalf("Take behind %d: %d, error %d", most, n, e)
		}
	}
	if n := f.Tickets().Taken(); n != most {
		t.Errorf("Taken: %d, not %d", n, most)
	}
}

// put puts a value into an object's cell, by a descriptor, which is still Active then.
func put(t *testing.T, f *floor.Floor, thread, obj int, value int64) int {
	t.Helper()
	id, e := f.Table().Begin(thread, 0, 1, 0, 0)
	if e != api.OK {
		t.Fatalf("Begin: error %d", e)
	}
	own(t, f, id, obj, value)
	return id
}

// own lets a descriptor own an object, which becomes the value when it commits.
func own(t *testing.T, f *floor.Floor, id, obj int, value int64) {
	t.Helper()
	c := f.Cells()
	at, e := c.Load(obj)
	if e != api.OK {
		t.Fatalf("Load(%d): error %d", obj, e)
	}
	l, e := c.Locator(at)
	if e != api.OK {
		t.Fatalf("Locator(%d): error %d", at, e)
	}
	version, e := c.Version(value)
	if e != api.OK {
		t.Fatalf("Version: error %d", e)
	}
	mine, e := c.Build(id, cells.Resolve(l, f.Table().Status(l.Owner)), version)
	if e != api.OK || !c.Swap(obj, at, mine) {
		t.Fatalf("Build: error %d, or no swap", e)
	}
}

// event is an event that is like no other one of these.
func event(n int) api.Event {
	return api.Event{Kind: n%7 + 1, Thread: n % 6, Txn: n % 5, Attempt: n, Obj: n % 8, Val: int64(11*n - 50), Reason: n % 4}
}

// events are so many of them.
func events(n int) []api.Event {
	var l []api.Event
	for i := range n {
		l = append(l, event(i))
	}
	return l
}

// The chapter's example.
func TestExample(t *testing.T) {
	f := with(t, plain(), values(3), []byte{7, 9})
	draws(t, f, 0, 7)
	draws(t, f, 1, 7)
	draws(t, f, 0, 9, 7)
}

// P13.1: the limits are api's, and the managers' numbers are from the first one's to the last one's.
func TestLimits(t *testing.T) {
	want := api.Config{Objects: api.MaxObjects, Threads: api.MaxThreads, Records: api.MaxRecords, Tickets: api.MaxTickets, Manager: api.Greedy, Wait: api.MaxWait}
	if want != greatest() {
		t.Errorf("the greatest numbers: %+v", want)
	}
	checkCheck(t, greatest(), true)
	checkCheck(t, plain(), true)
	checkCheck(t, api.Config{}, false)
}

// P13.1: each field alone, at any number, in configs whose other ones are ordinary, or all at one edge.
func TestCheckField(t *testing.T) {
	for _, other := range []api.Config{plain(), lowest(), greatest()} {
		for _, q := range fields() {
			for _, n := range append(numbers(), q.least-1, q.least, q.least+1, q.most-1, q.most, q.most+1) {
				c := other
				*q.of(&c) = n
				checkCheck(t, c, n >= q.least && n <= q.most)
			}
		}
	}
}

// P13.1: all fields at an edge, or one beyond it: a config may be, if none of them is beyond.
func TestCheckFieldsTogether(t *testing.T) {
	var each func(c api.Config, left []field, may bool)
	each = func(c api.Config, left []field, may bool) {
		if len(left) == 0 {
			checkCheck(t, c, may)
			return
		}
		q := left[0]
		for _, n := range []int{q.least - 1, q.least, q.most, q.most + 1} {
			*q.of(&c) = n
			each(c, left[1:], may && n >= q.least && n <= q.most)
		}
	}
	each(api.Config{}, fields(), true)
}

// P13.1: a config's numbers are asked each by itself: what one has too much another one's too little doesn't make good.
func TestCheckTwoWrong(t *testing.T) {
	for i, a := range fields() {
		for j, b := range fields() {
			if i == j {
				continue
			}
			for _, n := range numbers() {
				c := plain()
				*a.of(&c) += n
				*b.of(&c) -= n
				has := func(q field) bool { return *q.of(&c) >= q.least && *q.of(&c) <= q.most }
				checkCheck(t, c, has(a) && has(b))
			}
		}
	}
}

// P13.1: a floor has what its config says, of each number that a field may have (of the greater ones: some).
func TestNewFields(t *testing.T) {
	for _, q := range fields() {
		for n := q.least; n <= q.most; n++ {
			if n > 300 && n < 4090 {
				continue
			}
			c := plain()
			*q.of(&c) = n
			if c.Records < 2*c.Objects {
				refused(t, c, values(c.Objects), nil, api.ErrFull)
				continue
			}
			f := with(t, c, values(c.Objects), []byte{5})
			checkNew(t, f, c, values(c.Objects))
			take(t, f, c.Tickets)
			for thread := -2; thread < 9; thread++ {
				want := api.ErrNone
				if thread >= 0 && thread < c.Threads {
					want = api.OK
				}
				if e := f.Gate().Beat(thread); e != want {
					t.Errorf("Beat(%d) of %d threads: error %d", thread, c.Threads, e)
				}
			}
		}
	}
}

// P13.1: so has one whose config's numbers are all at an edge.
func TestNewEdges(t *testing.T) {
	c := lowest()
	c.Records = 2
	f := with(t, c, []int64{-9}, nil)
	checkNew(t, f, c, []int64{-9})
	take(t, f, 0)
	f = with(t, greatest(), values(8), make([]byte, 255))
	checkNew(t, f, greatest(), values(8))
	take(t, f, 255)
}

// P13.1: objects have the first values, of any numbers, in their order.
func TestFirstValues(t *testing.T) {
	for _, n := range numbers() {
		for _, first := range [][]int64{{int64(n)}, {int64(n), 0}, {1, int64(n), 2}, {0, 0, 0, int64(n)}, {int64(n), 1, 2, 3, 4, 5, 6, int64(-n)}} {
			c := plain()
			c.Objects = len(first)
			f := with(t, c, first, nil)
			checkNew(t, f, c, first)
			for obj, v := range first {
				if got, e := f.Cells().Current(f.Table(), obj); got != v || e != api.OK {
					t.Errorf("Current(%d): %d, error %d, not %d", obj, got, e, v)
				}
			}
		}
	}
}

// P13.1: as many first values as objects, fewer, more, and none.
func TestWrongNumberOfFirstValues(t *testing.T) {
	for objects := 1; objects <= 8; objects++ {
		c := plain()
		c.Objects = objects
		for n := range 12 {
			if n == objects {
				checkNew(t, with(t, c, values(n), nil), c, values(n))
			} else {
				refused(t, c, values(n), nil, api.ErrForm)
			}
		}
		refused(t, c, nil, []byte{1, 2}, api.ErrForm)
		refused(t, c, []int64{}, nil, api.ErrForm)
		refused(t, c, values(300), nil, api.ErrForm)
	}
}

// P13.1: the arena has just the room that the first values take, one record fewer, one more.
func TestRoom(t *testing.T) {
	for objects := 1; objects <= 8; objects++ {
		c := plain()
		c.Objects = objects
		for records := 1; records <= 20; records++ {
			c.Records = records
			if records < 2*objects {
				refused(t, c, values(objects), []byte{3}, api.ErrFull)
				continue
			}
			f := with(t, c, values(objects), []byte{3})
			checkNew(t, f, c, values(objects))
			for range records - 2*objects {
				if _, e := f.Cells().Version(1); e != api.OK {
					t.Errorf("Version: error %d", e)
				}
			}
			if _, e := f.Arena().Put(api.Rec{}); e != api.ErrFull {
				t.Errorf("Put: error %d", e)
			}
			if _, e := f.Table().Begin(0, 0, 1, 0, 0); e != api.ErrFull {
				t.Errorf("Begin: error %d", e)
			}
		}
	}
}

// P13.1: where several errors apply, the first one that the chapter names is told.
func TestFirstError(t *testing.T) {
	for _, q := range fields() {
		for _, n := range []int{q.least - 1, q.most + 1, math.MinInt, math.MaxInt} {
			c := plain()
			*q.of(&c) = n
			for _, count := range []int{0, 1, 2, 3, 4, 8, 9} {
				refused(t, c, values(count), nil, api.ErrRange)
			}
			// No room beside it, or that of too few first values.
			c = plain()
			c.Records = 5
			*q.of(&c) = n
			for _, count := range []int{0, 2, 3, 4} {
				refused(t, c, values(count), nil, api.ErrRange)
			}
		}
	}
	// A wrong number of first values, and no room: for these, or for the objects.
	c := plain()
	for _, records := range []int{1, 2, 3, 4, 5} {
		c.Records = records
		for _, count := range []int{0, 1, 2, 4, 9} {
			refused(t, c, values(count), nil, api.ErrForm)
		}
		refused(t, c, values(3), nil, api.ErrFull)
	}
}

// P13.1: each manager, told apart by what it does about a foe.
func TestManagers(t *testing.T) {
	me := choice.Side{Id: 8, Stamp: 5, Priority: 1}
	foe := choice.Side{Id: 7, Stamp: 3, Priority: 9, Pulse: 20}
	for _, q := range []struct {
		number int
		is     choice.Manager
		steps  int
		marks  bool
	}{
		{api.Polite, polite.Manager{}, 2, false},
		{api.Karma, karma.Manager{}, 1, false},
		{api.Stamp, stamp.Manager{}, 3, false},
		{api.Greedy, greedy.Manager{}, 1, true},
	} {
		c := plain()
		c.Manager = q.number
		m := with(t, c, values(3), nil).Manager()
		if m == nil {
			t.Fatalf("no manager %d", q.number)
		}
		if m.Marks() != q.marks {
			t.Errorf("the manager %d: Marks: %v", q.number, m.Marks())
		}
		if d, _ := m.Decide(choice.Fresh(), me, foe, 3, 8); d != (choice.Decision{Kind: choice.Wait, Steps: q.steps}) {
			t.Errorf("the manager %d: %+v", q.number, d)
		}
		checkManager(t, q.number, m, q.is)
	}
}

// checkManager holds a manager against the one that it is to be, over a row of meetings with many foes.
func checkManager(t *testing.T, number int, m, is choice.Manager) {
	t.Helper()
	got, want := choice.Fresh(), choice.Fresh()
	for n := range 400 {
		me := choice.Side{Id: 8, Stamp: n % 5, Priority: n % 7}
		foe := choice.Side{Id: n / 12, Stamp: n % 3, Priority: n % 11, Pulse: n / 3, Waiting: n%13 == 0}
		d, s := m.Decide(got, me, foe, n, 8)
		wants, next := is.Decide(want, me, foe, n, 8)
		if d != wants || s != next {
			t.Fatalf("the manager %d, of %+v and %+v: %+v, %+v, not %+v, %+v", number, me, foe, d, s, wants, next)
		}
		got, want = s, next
	}
}

// P13.1: what a floor hands out is the thing itself, each time, and all of it stands on one arena.
func TestTheThingItself(t *testing.T) {
	f := with(t, plain(), values(3), []byte{1})
	if f.Arena() != f.Arena() || f.Table() != f.Table() || f.Cells() != f.Cells() || f.Tickets() != f.Tickets() || f.Gate() != f.Gate() {
		t.Error("a floor hands out another thing at another time")
	}
	id, e := f.Table().Begin(1, 2, 3, 4, 5)
	if id != 6 || e != api.OK || f.Table().Count() != 1 {
		t.Errorf("Begin: %d, error %d, %d descriptors", id, e, f.Table().Count())
	}
	want := api.Rec{Kind: api.Descriptor, Thread: 1, Txn: 2, Attempt: 3, Stamp: 4}
	if r, e := f.Arena().At(id); r != want || e != api.OK {
		t.Errorf("At(%d): %+v, error %d", id, r, e)
	}
	at, e := f.Arena().Put(api.Rec{Kind: api.Version, Val: 44})
	if at != 7 || e != api.OK {
		t.Errorf("Put: %d, error %d", at, e)
	}
	if v, e := f.Cells().Value(at); v != 44 || e != api.OK {
		t.Errorf("Value(%d): %d, error %d", at, v, e)
	}
	if next, e := f.Cells().Version(45); next != 8 || e != api.OK || f.Arena().Len() != 9 || f.Arena().Left() != 31 {
		t.Errorf("Version: %d, error %d, %d records, %d left", next, e, f.Arena().Len(), f.Arena().Left())
	}
	if n, e := f.Tickets().Take(); n != 0 || e != api.OK || f.Tickets().Taken() != 1 {
		t.Errorf("Take: %d, error %d, %d taken", n, e, f.Tickets().Taken())
	}
	if !f.Gate().Swap(gate.Sight{}, 9, 1) || f.Gate().Beat(1) != api.OK || f.Gate().Pulse(1) != 1 {
		t.Error("the gate isn't the same")
	}
	if x := f.Gate().See(); x != (gate.Sight{Some: true, Stamp: 9, Thread: 1, Pulse: 1}) {
		t.Errorf("See: %+v", x)
	}
}

// P13.1: what is done to the parts changes neither the config nor each other.
func TestPartsApart(t *testing.T) {
	c := plain()
	f := with(t, c, values(3), []byte{4, 6})
	take(t, f, c.Tickets)
	f.Gate().Swap(gate.Sight{}, 2, 1)
	f.Gate().Beat(0)
	put(t, f, 0, 1, 99)
	f.Note(event(4))
	draws(t, f, 1, 4)
	if f.Config() != c {
		t.Errorf("Config: %+v", f.Config())
	}
	checkTrace(t, f, event(4))
	checkValues(t, f, values(3)...)
	draws(t, f, 1, 6, 4)
	draws(t, f, 0, 4)
	if f.Arena().Len() != 9 || f.Table().Count() != 1 || f.Tickets().Taken() != 5 || f.Gate().Pulse(0) != 1 || f.Gate().Pulse(1) != 0 {
		t.Error("one part changed another one")
	}
}

// P13.2: no draws: 0 of each thread, as often as it draws.
func TestNoDraws(t *testing.T) {
	for _, none := range [][]byte{nil, {}} {
		f := with(t, plain(), values(3), none)
		for _, thread := range append(numbers(), 0, 1, 1, 0) {
			draws(t, f, thread, 0, 0, 0)
		}
	}
}

// P13.2: one draw, of any byte, again and again.
func TestOneDraw(t *testing.T) {
	for n := range 256 {
		f := with(t, plain(), values(3), []byte{byte(n)})
		draws(t, f, 0, n, n, n)
		draws(t, f, 1, n, n)
		draws(t, f, 0, n)
	}
}

// P13.2: several, from the first to the last, and behind the last one the first one again; so of the ends of what a byte can be.
func TestSeveralDraws(t *testing.T) {
	for _, l := range [][]byte{{0, 255}, {255, 0}, {0, 0, 1}, {3, 1, 4, 1, 5}, {255, 255, 254, 128, 127, 0}, bytes(255), bytes(256), bytes(1000)} {
		f := with(t, plain(), values(3), l)
		for n := range 3*len(l) + 1 {
			draws(t, f, 1, int(l[n%len(l)]))
		}
		draws(t, f, 0, int(l[0]))
	}
}

// bytes are so many draws.
func bytes(n int) []byte {
	var l []byte
	for i := range n {
		l = append(l, byte(i*i+3*i))
	}
	return l
}

// P13.2: of a thread that there is not: 0, and others draw as if nothing had been.
func TestDrawOfNoThread(t *testing.T) {
	for threads := 1; threads <= 6; threads++ {
		c := plain()
		c.Threads = threads
		f := with(t, c, values(3), []byte{7, 9, 11})
		for thread := range threads {
			draws(t, f, thread, 7)
		}
		for _, thread := range append(numbers(), threads, threads+1) {
			if thread < 0 || thread >= threads {
				draws(t, f, thread, 0, 0)
			}
		}
		for thread := range threads {
			draws(t, f, thread, 9, 11, 7)
		}
	}
}

// P13.3: threads draw in turn, in any order: each one draws what it would draw alone.
func TestDrawsApart(t *testing.T) {
	l := []byte{7, 9, 0, 255}
	c := plain()
	c.Threads = 3
	for row := range 3 * 3 * 3 * 3 * 3 * 3 * 3 * 3 {
		f, drew := with(t, c, values(3), l), [3]int{}
		for range 8 {
			thread := row % 3
			row /= 3
			draws(t, f, thread, int(l[drew[thread]%len(l)]))
			drew[thread]++
		}
	}
}

// P13.3: one that draws often, and one that never does, play no part for others, of six threads.
func TestDrawsOften(t *testing.T) {
	l := bytes(37)
	for busy := range 6 {
		c := greatest()
		f := with(t, c, values(8), l)
		for n := range 5000 {
			draws(t, f, busy, int(l[n%37]))
		}
		for other := range 6 {
			if other != busy {
				for n := range 40 {
					draws(t, f, other, int(l[n%37]))
				}
			}
		}
		draws(t, f, busy, int(l[5000%37]))
	}
}

// P13.2: no event, one, and many, in the order in which they were noted, alike ones too, whole.
func TestTrace(t *testing.T) {
	f := with(t, plain(), values(3), nil)
	checkTrace(t, f)
	for n := range 200 {
		f.Note(event(n))
		if n < 10 || n%50 == 0 {
			checkTrace(t, f, events(n+1)...)
		}
	}
	checkTrace(t, f, events(200)...)
	f = with(t, plain(), values(3), nil)
	for range 3 {
		f.Note(event(6))
	}
	checkTrace(t, f, event(6), event(6), event(6))
}

// P13.2: an event is noted as it is, also one that no attempt would note.
func TestAnyEvent(t *testing.T) {
	f, want := with(t, plain(), values(3), nil), []api.Event{{}}
	f.Note(api.Event{})
	for _, n := range numbers() {
		for _, e := range []api.Event{
			{Kind: n}, {Thread: n}, {Txn: n}, {Attempt: n}, {Obj: n}, {Val: int64(n)}, {Reason: n},
			{Kind: n, Thread: n, Txn: n, Attempt: n, Obj: n, Val: int64(n), Reason: n},
		} {
			f.Note(e)
			want = append(want, e)
		}
	}
	checkTrace(t, f, want...)
}

// P13.2: values behind a swap are as they were, till the status of who owns the object is Committed.
func TestValuesBehindACommit(t *testing.T) {
	f := with(t, plain(), []int64{5, 6, 7}, nil)
	id := put(t, f, 0, 1, 60)
	checkValues(t, f, 5, 6, 7)
	own(t, f, id, 2, 70)
	checkValues(t, f, 5, 6, 7)
	if !f.Table().Turn(id, api.Committed) {
		t.Fatal("Turn: false")
	}
	checkValues(t, f, 5, 60, 70)
	own(t, f, id, 0, 50)
	checkValues(t, f, 50, 60, 70)
}

// P13.2: they stay as they were behind an abort, and who comes next begins there.
func TestValuesBehindAnAbort(t *testing.T) {
	f := with(t, plain(), []int64{5, 6, 7}, nil)
	id := put(t, f, 0, 1, 60)
	if !f.Table().Turn(id, api.Aborted) {
		t.Fatal("Turn: false")
	}
	checkValues(t, f, 5, 6, 7)
	next := put(t, f, 1, 1, 61)
	checkValues(t, f, 5, 6, 7)
	if !f.Table().Turn(next, api.Committed) || f.Table().Turn(id, api.Committed) {
		t.Fatal("Turn: false, or a second time")
	}
	checkValues(t, f, 5, 61, 7)
}

// P13.2: a cell whose number is no locator's: its value is as that chapter's All has it.
func TestValuesOfABadCell(t *testing.T) {
	f := with(t, plain(), []int64{5, 6, 7}, nil)
	at, _ := f.Cells().Load(1)
	f.Cells().Swap(1, at, 999)
	if l, want := f.Values(), f.Cells().All(f.Table()); !slices.Equal(l, want) || len(l) != 3 || l[0] != 5 || l[2] != 7 {
		t.Errorf("Values: %v, not %v", l, want)
	}
}

// P13.1, P13.2: what is done to a floor plays no part for another one, of the same config and draws.
func TestTwoFloors(t *testing.T) {
	c, first, l := plain(), []int64{5, 6, 7}, []byte{7, 9, 11}
	one, other := with(t, c, first, l), with(t, c, first, l)
	if one == other || one.Arena() == other.Arena() || one.Table() == other.Table() || one.Cells() == other.Cells() || one.Tickets() == other.Tickets() || one.Gate() == other.Gate() {
		t.Fatal("two floors have one thing")
	}
	draws(t, one, 0, 7, 9)
	draws(t, one, 1, 7)
	one.Note(event(3))
	one.Table().Turn(put(t, one, 0, 0, 50), api.Committed)
	one.Gate().Swap(gate.Sight{}, 1, 1)
	one.Gate().Beat(0)
	take(t, one, 5)
	checkNew(t, other, c, first)
	take(t, other, 5)
	draws(t, other, 0, 7, 9, 11)
	draws(t, other, 1, 7)
	draws(t, one, 0, 11)
	draws(t, one, 1, 9)
	checkTrace(t, one, event(3))
	checkValues(t, one, 50, 6, 7)
}

// P13.1, P13.2: what was handed in is as it was, its spare room too, and isn't kept.
func TestHandedIn(t *testing.T) {
	first, l := []int64{5, 6, 7, 70, 71, 72}, []byte{7, 9, 11, 110, 111}
	f := with(t, plain(), first[:3], l[:2])
	draws(t, f, 0, 7, 9, 7)
	f.Table().Turn(put(t, f, 0, 1, 60), api.Committed)
	f.Note(event(1))
	if !slices.Equal(first, []int64{5, 6, 7, 70, 71, 72}) || !slices.Equal(l, []byte{7, 9, 11, 110, 111}) {
		t.Errorf("handed in, and changed: %v, %v", first, l)
	}
	for i := range first {
		first[i] = -1
	}
	for i := range l {
		l[i] = 200
	}
	checkValues(t, f, 5, 60, 7)
	draws(t, f, 0, 9, 7)
	draws(t, f, 1, 7, 9, 7)
	// So of what is refused.
	refused(t, plain(), first[:2], l[:1], api.ErrForm)
	c := plain()
	c.Records = 5
	refused(t, c, first[:3], l[:1], api.ErrFull)
	if !slices.Equal(first, []int64{-1, -1, -1, -1, -1, -1}) || !slices.Equal(l, []byte{200, 200, 200, 200, 200}) {
		t.Errorf("handed in, and changed: %v, %v", first, l)
	}
}

// P13.2: what is told of the trace and the values, and changed, or made longer, changes nothing.
func TestTold(t *testing.T) {
	f := with(t, plain(), values(3), nil)
	for n := range 20 {
		trace, told := f.Trace(), f.Values()
		for i := range trace {
			trace[i] = api.Event{Kind: 99}
		}
		for i := range told {
			told[i] = -77
		}
		_, _ = append(trace, api.Event{Kind: 98}), append(told, -78)
		checkTrace(t, f, events(n)...)
		checkValues(t, f, values(3)...)
		before := f.Trace()
		f.Note(event(n))
		if !slices.Equal(before, events(n)) {
			t.Errorf("told ahead of an event, and changed by it: %+v", before)
		}
	}
	before := f.Values()
	f.Table().Turn(put(t, f, 0, 1, 60), api.Committed)
	if !slices.Equal(before, values(3)) {
		t.Errorf("told ahead of a commit, and changed by it: %v", before)
	}
	// The spare room of what was told is no other list's.
	one, other := f.Trace(), f.Trace()
	one, other = append(one, event(100)), append(other, event(200))
	f.Note(event(20))
	if one[20] != event(100) || other[20] != event(200) {
		t.Error("two lists that were told share their room")
	}
	checkTrace(t, f, events(21)...)
}

// P13.1, P13.2: of a nil floor each call tells nothing, and does nothing.
func TestNilFloor(t *testing.T) {
	var f *floor.Floor
	for range 2 {
		if c := f.Config(); c != (api.Config{}) {
			t.Errorf("Config: %+v", c)
		}
		if f.Arena() != (*arena.Arena[api.Rec])(nil) || f.Table() != (*desc.Table)(nil) || f.Cells() != nil || f.Tickets() != nil || f.Gate() != nil || f.Manager() != nil {
			t.Error("a nil floor has something")
		}
		for _, thread := range numbers() {
			draws(t, f, thread, 0)
		}
		f.Note(event(1))
		f.Note(api.Event{})
		checkTrace(t, f)
		checkValues(t, f)
	}
}

// model is what the chapter says of draws and of the trace, kept in the plainest way.
type model struct {
	draws  []byte
	drew   map[int][]int
	events []api.Event
}

// draw is a thread's next draw.
func (m *model) draw(thread, threads int) int {
	if thread < 0 || thread >= threads || len(m.draws) == 0 {
		return 0
	}
	n := int(m.draws[len(m.drew[thread])%len(m.draws)])
	m.drew[thread] = append(m.drew[thread], n)
	return n
}

// P13.2, P13.3: long rows of calls, held against what the chapter says.
func TestLongRows(t *testing.T) {
	next := uint32(12345)
	random := func(n int) int {
		next = next*1664525 + 1013904223
		return int(next>>8) % n
	}
	for range 60 {
		c := plain()
		c.Threads, c.Objects, c.Records = 1+random(6), 1+random(8), 400
		l := bytes(random(20))
		first := values(c.Objects)
		f, m := with(t, c, first, l), &model{draws: l, drew: map[int][]int{}}
		for range 300 {
			switch random(4) {
			case 0, 1:
				thread := random(8) - 1
				draws(t, f, thread, m.draw(thread, c.Threads))
			case 2:
				e := event(random(1000))
				f.Note(e)
				m.events = append(m.events, e)
			default:
				if f.Arena().Left() < 3 {
					continue
				}
				obj, v := random(c.Objects), int64(random(1000)-500)
				id := put(t, f, random(c.Threads), obj, v)
				if random(2) == 0 {
					f.Table().Turn(id, api.Committed)
					first[obj] = v
				} else {
					f.Table().Turn(id, api.Aborted)
				}
			}
		}
		checkTrace(t, f, m.events...)
		checkValues(t, f, first...)
	}
}
