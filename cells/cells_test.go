package cells_test

import (
	"math"
	"slices"
	"testing"

	"quarrel/api"
	"quarrel/arena"
	"quarrel/cells"
	"quarrel/desc"
)

// roomFor is an empty arena, with which a test can go on.
func roomFor(t *testing.T, n int) *arena.Arena[api.Rec] {
	t.Helper()
	a, e := arena.New[api.Rec](n)
	if a == nil || e != api.OK {
		t.Fatalf("an arena of %d: error %d", n, e)
	}
	return a
}

// put puts a record that is none of the cells' own, and answers its number.
func put(t *testing.T, a *arena.Arena[api.Rec], r api.Rec) int {
	t.Helper()
	at, e := a.Put(r)
	if e != api.OK {
		t.Fatalf("Put(%v): error %d", r, e)
	}
	return at
}

// on are cells on an arena, with which a test can go on.
func on(t *testing.T, a *arena.Arena[api.Rec], first ...int64) *cells.Cells {
	t.Helper()
	c, e := cells.New(a, first)
	if c == nil || e != api.OK {
		t.Fatalf("New of %d values: cells: %v, error %d", len(first), c != nil, e)
	}
	return c
}

// table is a table on an arena, with which a test can go on.
func table(t *testing.T, a *arena.Arena[api.Rec]) *desc.Table {
	t.Helper()
	d, e := desc.New(a)
	if d == nil || e != api.OK {
		t.Fatalf("a table: error %d", e)
	}
	return d
}

// begin is the number of a new descriptor.
func begin(t *testing.T, d *desc.Table) int {
	t.Helper()
	id, e := d.Begin(0, 0, 1, 7, 0)
	if e != api.OK {
		t.Fatalf("Begin: error %d", e)
	}
	return id
}

// version is the number of a new version.
func version(t *testing.T, c *cells.Cells, v int64) int {
	t.Helper()
	at, e := c.Version(v)
	if e != api.OK {
		t.Fatalf("Version(%d): error %d", v, e)
	}
	return at
}

// build is the number of a new locator.
func build(t *testing.T, c *cells.Cells, owner, old, next int) int {
	t.Helper()
	at, e := c.Build(owner, old, next)
	if e != api.OK {
		t.Fatalf("Build(%d, %d, %d): error %d", owner, old, next, e)
	}
	return at
}

// load is the number of an object's cell.
func load(t *testing.T, c *cells.Cells, obj int) int {
	t.Helper()
	at, e := c.Load(obj)
	if e != api.OK {
		t.Fatalf("Load(%d): error %d", obj, e)
	}
	return at
}

// give lets an object have a locator of an owner, whose Old and New are versions of these values.
func give(t *testing.T, c *cells.Cells, obj, owner int, old, next int64) {
	t.Helper()
	at := build(t, c, owner, version(t, c, old), version(t, c, next))
	if has := load(t, c, obj); !c.Swap(obj, has, at) {
		t.Fatalf("Swap(%d, %d, %d): false", obj, has, at)
	}
}

// checkValues asks for all values, together and one by one.
func checkValues(t *testing.T, c *cells.Cells, d *desc.Table, want ...int64) {
	t.Helper()
	if n := c.Objects(); n != len(want) {
		t.Errorf("Objects: %d, not %d", n, len(want))
	}
	if all := c.All(d); !slices.Equal(all, want) {
		t.Errorf("All: %v, not %v", all, want)
	}
	for obj, v := range want {
		if got, e := c.Current(d, obj); got != v || e != api.OK {
			t.Errorf("Current(%d): %d, error %d, not %d", obj, got, e, v)
		}
	}
}

// checkRecord asks an arena for the record that a number must have.
func checkRecord(t *testing.T, a *arena.Arena[api.Rec], at int, want api.Rec) {
	t.Helper()
	if r, e := a.At(at); r != want || e != api.OK {
		t.Errorf("the arena's %d: %v, error %d, not %v", at, r, e, want)
	}
}

// firsts are lists of values that may be first ones: 1 value, 8, and those between, with the ends of what a value can be.
func firsts() [][]int64 {
	return [][]int64{
		{5}, {0}, {-1}, {math.MaxInt64}, {math.MinInt64}, {3, 3}, {7, -7, 0}, {4, 3, 2, 1}, {1, 2, 3, 4, 5},
		{0, 0, 0, 0, 0, 0}, {9, 8, 7, 6, 5, 4, 3}, {math.MinInt64, -2, -1, 0, 1, 2, math.MaxInt32, math.MaxInt64},
	}
}

// noObjects are numbers that none of so many objects has.
func noObjects(objects int) []int {
	return []int{-1, -2, -objects, -objects - 1, objects, objects + 1, objects + 8, 4096, math.MaxInt32, math.MinInt32, math.MaxInt, math.MinInt}
}

// statuses are those of descriptors, that of none, and numbers that aren't any.
func statuses() []api.Status {
	return []api.Status{0, api.Active, api.Committed, api.Aborted, 4, -1, -2, math.MaxInt, math.MinInt}
}

// P4.1: of each first value, in order, a version and a locator of nobody stand in the arena, behind what was there; the cell has the locator's number.
func TestNew(t *testing.T) {
	for _, first := range firsts() {
		for _, ahead := range []int{0, 1, 2, 5} {
			a := roomFor(t, ahead+2*len(first)+3)
			for range ahead {
				put(t, a, api.Rec{Kind: api.Version, Val: 77})
			}
			c := on(t, a, first...)
			if n := a.Len(); n != ahead+2*len(first) {
				t.Errorf("New(%v), behind %d: %d records", first, ahead, n)
			}
			for obj, v := range first {
				at := ahead + 2*obj
				checkRecord(t, a, at, api.Rec{Kind: 1, Val: v})
				checkRecord(t, a, at+1, api.Rec{Kind: 2, Owner: -1, Old: at, New: at})
				if n := load(t, c, obj); n != at+1 {
					t.Errorf("New(%v), behind %d: Load(%d): %d, not %d", first, ahead, obj, n, at+1)
				}
			}
			checkValues(t, c, table(t, a), first...)
		}
	}
}

// P4.1: an arena that has just room for all takes them, and is full then; one that lacks room for one, or more, takes none.
func TestNewAndRoom(t *testing.T) {
	for _, first := range firsts() {
		for _, ahead := range []int{0, 1, 6} {
			needs := 2 * len(first)
			for left := max(0, 1-ahead); left < needs; left++ {
				checkNoRoom(t, first, ahead, left)
			}
			a := roomFor(t, ahead+needs)
			for range ahead {
				put(t, a, api.Rec{Kind: api.Descriptor})
			}
			c := on(t, a, first...)
			if a.Left() != 0 {
				t.Errorf("New(%v): room for %d is left", first, a.Left())
			}
			checkValues(t, c, nil, first...)
		}
	}
}

// checkNoRoom tries New where room for so many is left, which isn't enough.
func checkNoRoom(t *testing.T, first []int64, ahead, left int) {
	t.Helper()
	a := roomFor(t, ahead+left)
	for i := range ahead {
		put(t, a, api.Rec{Kind: api.Version, Val: int64(i)})
	}
	for range 2 {
		if c, e := cells.New(a, first); c != nil || e != api.ErrFull {
			t.Errorf("New(%v), room for %d: cells: %v, error %d", first, left, c != nil, e)
		}
		if a.Len() != ahead || a.Left() != left {
			t.Fatalf("New(%v), room for %d: %d records, room for %d", first, left, a.Len(), a.Left())
		}
	}
}

// P4.1: no value, or more than 8, is refused, in an arena that is full, too, and nothing is put.
func TestNewAndCount(t *testing.T) {
	for _, room := range []int{1, 3, 16, 18, 4096} {
		for _, full := range []bool{false, true} {
			a := roomFor(t, room)
			for full && a.Left() > 0 {
				put(t, a, api.Rec{Kind: api.Version})
			}
			has := a.Len()
			for _, first := range [][]int64{nil, {}, make([]int64, 0, 4), make([]int64, 9), {1, 2, 3, 4, 5, 6, 7, 8, 9}, make([]int64, 10), make([]int64, 5000)} {
				if c, e := cells.New(a, first); c != nil || e != api.ErrRange {
					t.Errorf("New of %d values: cells: %v, error %d", len(first), c != nil, e)
				}
				if a.Len() != has {
					t.Fatalf("New of %d values: %d records, not %d", len(first), a.Len(), has)
				}
			}
		}
	}
}

// P4.1: a nil arena is told first, whatever the values are.
func TestNewOfNilArena(t *testing.T) {
	for _, first := range [][]int64{{5}, {1, 2, 3, 4, 5, 6, 7, 8}, nil, {}, make([]int64, 9)} {
		if c, e := cells.New(nil, first); c != nil || e != api.ErrNone {
			t.Errorf("New of a nil arena, %d values: cells: %v, error %d", len(first), c != nil, e)
		}
	}
}

// P4.1: the values that are handed in are neither changed nor kept, and their spare room isn't either.
func TestNewLeavesFirst(t *testing.T) {
	whole := []int64{1, 2, 3, 4, 5}
	a := roomFor(t, 10)
	c := on(t, a, whole[:3]...)
	d := table(t, a)
	if !slices.Equal(whole, []int64{1, 2, 3, 4, 5}) {
		t.Error("the list is", whole)
	}
	for i := range whole {
		whole[i] = 9
	}
	checkValues(t, c, d, 1, 2, 3)
}

// P4.1, P4.2: cells on one arena have each their own objects, and read each other's records.
func TestCellsApart(t *testing.T) {
	a := roomFor(t, 20)
	one, two := on(t, a, 1, 2), on(t, a, 3)
	checkValues(t, one, nil, 1, 2)
	checkValues(t, two, nil, 3)
	give(t, one, 0, -1, 8, 9)
	checkValues(t, one, nil, 9, 2)
	checkValues(t, two, nil, 3)
	if v, e := two.Value(0); v != 1 || e != api.OK {
		t.Errorf("Value(0): %d, error %d", v, e)
	}
	if r, e := one.Locator(5); r != (api.Rec{Kind: api.Locator, Owner: -1, Old: 4, New: 4}) || e != api.OK {
		t.Errorf("Locator(5): %v, error %d", r, e)
	}
}

// P4.2, P4.4: objects that there aren't have no number, no value, and can't be swapped; nothing changes.
func TestNoObject(t *testing.T) {
	for _, first := range firsts() {
		a := roomFor(t, 40)
		// A locator stands under the number 0, so that one who takes the 0 beside ErrNone for a cell's number finds a value.
		put(t, a, api.Rec{Kind: api.Locator, Owner: -1, Old: 1, New: 1})
		put(t, a, api.Rec{Kind: api.Version, Val: 77})
		c, d := on(t, a, first...), table(t, a)
		for _, obj := range noObjects(len(first)) {
			if n, e := c.Load(obj); n != 0 || e != api.ErrNone {
				t.Errorf("of %d objects, Load(%d): %d, error %d", len(first), obj, n, e)
			}
			for _, old := range []int{0, 1, 3, -1} {
				if c.Swap(obj, old, old) || c.Swap(obj, old, 1) {
					t.Errorf("of %d objects, Swap(%d, %d): true", len(first), obj, old)
				}
			}
			if v, e := c.Current(d, obj); v != 0 || e != api.ErrNone {
				t.Errorf("of %d objects, Current(%d): %d, error %d", len(first), obj, v, e)
			}
		}
		checkValues(t, c, d, first...)
	}
}

// P4.2: a cell is swapped just if it has the old number, to any number; other cells stay.
func TestSwap(t *testing.T) {
	numbers := []int{0, 1, 2, 3, 5, -1, 4096, math.MaxInt, math.MinInt}
	for obj, has := range []int{1, 3, 5} {
		for _, old := range numbers {
			for _, next := range numbers {
				c := on(t, roomFor(t, 6), 10, 20, 30)
				if got := c.Swap(obj, old, next); got != (old == has) {
					t.Errorf("Swap(%d, %d, %d): %v", obj, old, next, got)
				}
				want := []int{1, 3, 5}
				if old == has {
					want[obj] = next
				}
				for o, n := range want {
					if got := load(t, c, o); got != n {
						t.Errorf("Swap(%d, %d, %d): Load(%d): %d, not %d", obj, old, next, o, got, n)
					}
				}
			}
		}
	}
}

// P4.2: of swaps from one old number the first one is true, and those behind it aren't, till that number comes again.
func TestSwapOnce(t *testing.T) {
	a := roomFor(t, 20)
	c := on(t, a, 5)
	mine, others := build(t, c, -1, version(t, c, 6), version(t, c, 7)), build(t, c, -1, version(t, c, 8), version(t, c, 9))
	if !c.Swap(0, 1, mine) || c.Swap(0, 1, others) || c.Swap(0, 1, mine) {
		t.Error("of swaps from 1 not just the first one is true")
	}
	checkValues(t, c, nil, 7)
	if !c.Swap(0, mine, 1) {
		t.Error("Swap back: false")
	}
	checkValues(t, c, nil, 5)
	if !c.Swap(0, 1, others) {
		t.Error("Swap from 1, which is there again: false")
	}
	checkValues(t, c, nil, 9)
}

// P4.2: just locators are told as locators, just versions as versions, whoever put them there.
func TestRecordsByKind(t *testing.T) {
	a := roomFor(t, 40)
	c := on(t, a, 5, 6)
	d := table(t, a)
	begin(t, d)
	for _, kind := range []int{0, 1, 2, 3, 4, -1, -2, math.MaxInt, math.MinInt} {
		put(t, a, api.Rec{Kind: kind, Val: 42, Owner: 3, Old: 4, New: 5, Thread: 1, Txn: 2, Attempt: 3, Stamp: 4})
		put(t, a, api.Rec{Kind: kind})
	}
	build(t, c, 4, version(t, c, -9), 0)
	for at := range a.Len() {
		record, _ := a.At(at)
		checkLocator(t, c, at, record)
		checkVersion(t, c, at, record)
	}
	for _, at := range []int{-1, -2, a.Len(), a.Len() + 1, 39, 40, 4096, math.MaxInt32, math.MinInt32, math.MaxInt, math.MinInt} {
		checkLocator(t, c, at, api.Rec{})
		checkVersion(t, c, at, api.Rec{})
	}
}

// checkLocator asks for a locator where that record stands.
func checkLocator(t *testing.T, c *cells.Cells, at int, stands api.Rec) {
	t.Helper()
	want, told := stands, api.OK
	if stands.Kind != 2 {
		want, told = api.Rec{}, api.ErrNone
	}
	if r, e := c.Locator(at); r != want || e != told {
		t.Errorf("Locator(%d), where %v stands: %v, error %d", at, stands, r, e)
	}
}

// checkVersion asks for a version's value where that record stands.
func checkVersion(t *testing.T, c *cells.Cells, at int, stands api.Rec) {
	t.Helper()
	want, told := stands.Val, api.OK
	if stands.Kind != 1 {
		want, told = 0, api.ErrNone
	}
	if v, e := c.Value(at); v != want || e != told {
		t.Errorf("Value(%d), where %v stands: %d, error %d", at, stands, v, e)
	}
}

// P4.2: what is told of a locator is apart from it.
func TestLocatorIsApart(t *testing.T) {
	c := on(t, roomFor(t, 2), 5)
	r, _ := c.Locator(1)
	r.Kind, r.Old, r.New = api.Version, 7, 7
	if r, e := c.Locator(1); r != (api.Rec{Kind: api.Locator, Owner: -1}) || e != api.OK {
		t.Errorf("Locator(1): %v, error %d", r, e)
	}
	checkValues(t, c, nil, 5)
}

// P4.3: a version of any value is put, and told by its number, till the arena is full; it changes no object.
func TestVersion(t *testing.T) {
	values := []int64{0, 1, -1, 7, 7, math.MaxInt32, math.MinInt32, math.MaxInt64, math.MinInt64}
	a := roomFor(t, 2+len(values))
	c := on(t, a, 5)
	for i, v := range values {
		if at, e := c.Version(v); at != 2+i || e != api.OK {
			t.Errorf("Version(%d): %d, error %d, not %d", v, at, e, 2+i)
		}
		checkRecord(t, a, 2+i, api.Rec{Kind: 1, Val: v})
		checkValues(t, c, nil, 5)
	}
	for range 2 {
		if at, e := c.Version(3); at != 0 || e != api.ErrFull {
			t.Errorf("full: Version: %d, error %d", at, e)
		}
	}
	for i, v := range values {
		if got, e := c.Value(2 + i); got != v || e != api.OK {
			t.Errorf("Value(%d): %d, error %d, not %d", 2+i, got, e, v)
		}
	}
}

// P4.3: a locator of any owner from -1 on, and of any two versions, one in both places with them, is put, and told by its number; it changes no object.
func TestBuild(t *testing.T) {
	a := roomFor(t, 200)
	c := on(t, a, 5, 6)
	d := table(t, a)
	raw := put(t, a, api.Rec{Kind: api.Version, Val: 8})
	id := begin(t, d)
	versions := []int{0, 2, raw, version(t, c, 7)}
	for _, owner := range []int{-1, 0, 1, id, 50, 4096, math.MaxInt} {
		for _, old := range versions {
			for _, next := range versions {
				want := a.Len()
				if at, e := c.Build(owner, old, next); at != want || e != api.OK {
					t.Errorf("Build(%d, %d, %d): %d, error %d, not %d", owner, old, next, at, e, want)
				}
				record := api.Rec{Kind: 2, Owner: owner, Old: old, New: next}
				checkRecord(t, a, want, record)
				checkLocator(t, c, want, record)
				checkValues(t, c, d, 5, 6)
			}
		}
	}
}

// P4.3: an owner below -1, and numbers that aren't versions', are refused, in an arena that is full, too, and nothing is put.
func TestBuildOfWrongOnes(t *testing.T) {
	for _, full := range []bool{false, true} {
		a := roomFor(t, 20)
		c := on(t, a, 5, 6)
		id := begin(t, table(t, a))
		put(t, a, api.Rec{})
		put(t, a, api.Rec{Kind: 4, Val: 5})
		for full && a.Left() > 0 {
			put(t, a, api.Rec{Kind: api.Version})
		}
		has := a.Len()
		refuse := func(owner, old, next int) {
			t.Helper()
			if at, e := c.Build(owner, old, next); at != 0 || e != api.ErrArg {
				t.Errorf("full %v: Build(%d, %d, %d): %d, error %d", full, owner, old, next, at, e)
			}
			if a.Len() != has {
				t.Fatalf("full %v: Build(%d, %d, %d): %d records", full, owner, old, next, a.Len())
			}
		}
		for _, owner := range []int{-2, -3, -255, math.MinInt32, math.MinInt} {
			refuse(owner, 0, 2)
			refuse(owner, 1, -1)
		}
		for _, wrong := range []int{1, 3, id, 5, 6, -1, -2, 20, 4096, math.MaxInt, math.MinInt} {
			for _, owner := range []int{-1, id} {
				refuse(owner, wrong, 0)
				refuse(owner, 0, wrong)
				refuse(owner, wrong, wrong)
			}
		}
		checkValues(t, c, nil, 5, 6)
	}
}

// P4.3: where the arena has no room, no locator is put.
func TestBuildInFullArena(t *testing.T) {
	a := roomFor(t, 3)
	c := on(t, a, 5)
	build(t, c, 0, 0, 0)
	for range 2 {
		for _, owner := range []int{-1, 0, 7} {
			if at, e := c.Build(owner, 0, 0); at != 0 || e != api.ErrFull {
				t.Errorf("full: Build(%d, 0, 0): %d, error %d", owner, at, e)
			}
		}
		if a.Len() != 3 {
			t.Errorf("full: %d records", a.Len())
		}
	}
	checkValues(t, c, nil, 5)
}

// P4.4: a locator of nobody resolves to New, whatever the status is; one of somebody to New if he is Committed, else to Old; other records to 0.
func TestResolve(t *testing.T) {
	for _, kind := range []int{0, 1, 2, 3, 4, -1, -2, math.MaxInt, math.MinInt} {
		for _, owner := range []int{-1, 0, 1, 2, 4096, -2, math.MaxInt, math.MinInt} {
			for _, two := range [][2]int{{3, 4}, {4, 3}, {5, 5}, {0, 1}, {1, 0}, {-1, -2}, {math.MaxInt, math.MinInt}} {
				for _, s := range statuses() {
					want := two[0]
					if owner == -1 || s == 2 {
						want = two[1]
					}
					if kind != 2 {
						want = 0
					}
					l := api.Rec{Kind: kind, Val: 9, Owner: owner, Old: two[0], New: two[1], Thread: 6, Txn: 7, Attempt: 8, Stamp: 9}
					if got := cells.Resolve(l, s); got != want {
						t.Errorf("Resolve(%v, %d): %d, not %d", l, s, got, want)
					}
				}
			}
		}
	}
}

// P4.4: an object's value is New's if its locator is nobody's, or of one that is Committed, and Old's if of one that is Active or Aborted, or of a number that is no descriptor's.
func TestCurrent(t *testing.T) {
	a := roomFor(t, 100)
	c, d := on(t, a, 5, 6, 7, 8, 9), table(t, a)
	active, committed, aborted := begin(t, d), begin(t, d), begin(t, d)
	d.Turn(committed, api.Committed)
	d.Turn(aborted, api.Aborted)
	for obj, owner := range []int{-1, active, committed, aborted, 99} {
		give(t, c, obj, owner, int64(10*obj), int64(10*obj+1))
	}
	checkValues(t, c, d, 1, 10, 21, 30, 40)
	// Of a nil table, and of one that has no such descriptors, nobody is Committed.
	checkValues(t, c, nil, 1, 10, 20, 30, 40)
	checkValues(t, c, table(t, roomFor(t, 1)), 1, 10, 20, 30, 40)
}

// P4.4: statuses are the table's: one that stands on another arena tells of its own descriptors.
func TestCurrentByTable(t *testing.T) {
	a := roomFor(t, 20)
	c, here, there := on(t, a, 5), table(t, a), table(t, roomFor(t, 10))
	id := begin(t, here)
	for range id + 1 {
		begin(t, there)
	}
	give(t, c, 0, id, 1, 2)
	there.Turn(id, api.Committed)
	checkValues(t, c, here, 1)
	checkValues(t, c, there, 2)
}

// P4.4: one version in both places is the value, however far the owner is.
func TestOneVersionInBothPlaces(t *testing.T) {
	for _, to := range []api.Status{api.Active, api.Committed, api.Aborted} {
		a := roomFor(t, 20)
		c, d := on(t, a, 5), table(t, a)
		id := begin(t, d)
		both := version(t, c, 6)
		if !c.Swap(0, 1, build(t, c, id, both, both)) {
			t.Fatal("Swap: false")
		}
		d.Turn(id, to)
		checkValues(t, c, d, 6)
	}
}

// P4.4: what is told of all objects is new memory, its spare room too.
func TestAllIsNew(t *testing.T) {
	a := roomFor(t, 20)
	c, d := on(t, a, 5, 6, 7), table(t, a)
	all, again := c.All(d), c.All(d)
	more := append(all, 1)
	for i := range more {
		more[i] = 99
	}
	for i := range all {
		all[i] = 98
	}
	if !slices.Equal(again, []int64{5, 6, 7}) {
		t.Error("another answer is", again)
	}
	checkValues(t, c, d, 5, 6, 7)
}

// P4.4: a cell whose number is no locator's has no value, and the other objects keep their places.
func TestCellWithoutLocator(t *testing.T) {
	a := roomFor(t, 20)
	c, d := on(t, a, 5, 6, 7), table(t, a)
	id := begin(t, d)
	astray := put(t, a, api.Rec{Kind: api.Locator, Owner: -1, Old: 0, New: 1})
	has := 3
	for _, wrong := range []int{0, 2, id, -1, 20, math.MaxInt, math.MinInt, astray} {
		if !c.Swap(1, has, wrong) {
			t.Fatalf("Swap(1, %d, %d): false", has, wrong)
		}
		has = wrong
		if v, e := c.Current(d, 1); v != 0 || e != api.ErrNone {
			t.Errorf("a cell with %d: Current: %d, error %d", wrong, v, e)
		}
		if all := c.All(d); !slices.Equal(all, []int64{5, 0, 7}) {
			t.Errorf("a cell with %d: All: %v", wrong, all)
		}
	}
	if !c.Swap(1, has, 3) {
		t.Fatal("Swap back: false")
	}
	checkValues(t, c, d, 5, 6, 7)
}

// P4.4: nil cells have nothing, and build nothing, whatever they are asked.
func TestNilCells(t *testing.T) {
	var c *cells.Cells
	d := table(t, roomFor(t, 4))
	begin(t, d)
	if n := c.Objects(); n != 0 {
		t.Error("nil: Objects:", n)
	}
	for _, n := range []int{0, 1, 2, 7, -1, -2, math.MaxInt, math.MinInt} {
		if at, e := c.Load(n); at != 0 || e != api.ErrNone {
			t.Errorf("nil: Load(%d): %d, error %d", n, at, e)
		}
		if c.Swap(n, 0, 0) || c.Swap(n, 0, 1) || c.Swap(0, n, n) {
			t.Errorf("nil: Swap, of %d: true", n)
		}
		if r, e := c.Locator(n); r != (api.Rec{}) || e != api.ErrNone {
			t.Errorf("nil: Locator(%d): %v, error %d", n, r, e)
		}
		if v, e := c.Value(n); v != 0 || e != api.ErrNone {
			t.Errorf("nil: Value(%d): %d, error %d", n, v, e)
		}
		if at, e := c.Version(int64(n)); at != 0 || e != api.ErrNone {
			t.Errorf("nil: Version(%d): %d, error %d", n, at, e)
		}
		if at, e := c.Build(n, 0, 0); at != 0 || e != api.ErrNone {
			t.Errorf("nil: Build(%d, 0, 0): %d, error %d", n, at, e)
		}
		for _, x := range []*desc.Table{nil, d} {
			if v, e := c.Current(x, n); v != 0 || e != api.ErrNone {
				t.Errorf("nil: Current(%d): %d, error %d", n, v, e)
			}
			if all := c.All(x); len(all) != 0 {
				t.Error("nil: All:", all)
			}
		}
	}
}

// P4.5: as long as nobody commits, or swaps a cell, all objects are as they are, whatever is put and whoever begins, waits, is raised or aborted.
func TestNothingChanges(t *testing.T) {
	a := roomFor(t, 100)
	c, d := on(t, a, 5, 6, 7), table(t, a)
	one, two := begin(t, d), begin(t, d)
	give(t, c, 0, one, 50, 51)
	give(t, c, 1, two, 60, 61)
	steps := []func(){
		func() { begin(t, d) },
		func() { version(t, c, 9) },
		func() { build(t, c, one, 0, version(t, c, 9)) },
		func() { build(t, c, -1, 0, 2) },
		func() { put(t, a, api.Rec{Kind: api.Locator, Owner: -1}) },
		func() { d.Raise(one) },
		func() { d.Wait(two, true) },
		func() { c.Swap(0, 1, 3) },
		func() { c.Load(2) },
		func() { d.Turn(one, api.Active) },
		func() { d.Turn(one, api.Aborted) },
		func() { d.Turn(one, api.Committed) },
		func() { d.Turn(two, api.Aborted) },
		func() { d.Turn(two, api.Committed) },
	}
	for _, step := range steps {
		step()
		checkValues(t, c, d, 50, 60, 7)
	}
}

// P4.5: one turn lets all objects of him who commits have their New, and no other object; of him who is aborted none has it.
func TestCommitAtOnce(t *testing.T) {
	const objects = 8
	for mine := range 1 << objects {
		for _, to := range []api.Status{api.Committed, api.Aborted} {
			a := roomFor(t, 100)
			c, d := on(t, a, make([]int64, objects)...), table(t, a)
			me, other := begin(t, d), begin(t, d)
			ahead, behind := make([]int64, objects), make([]int64, objects)
			for obj := range objects {
				owner := other
				ahead[obj], behind[obj] = int64(obj), int64(obj)
				if mine>>obj&1 == 1 {
					owner = me
					if to == api.Committed {
						behind[obj] = int64(obj + 100)
					}
				}
				give(t, c, obj, owner, int64(obj), int64(obj+100))
			}
			checkValues(t, c, d, ahead...)
			if !d.Turn(me, to) {
				t.Fatal("Turn: false")
			}
			checkValues(t, c, d, behind...)
			if t.Failed() {
				t.Fatalf("objects %b, turned to %d", mine, to)
			}
		}
	}
}

// plain is what an object is, told without locators: what it was, what it becomes, and who is to commit for that.
type plain struct {
	was, becomes int64
	owner        int
}

// P4.5, P4.2, P4.4: all short sequences of opens, commits and aborts by two attempts on two objects leave what plain objects do.
func TestSequences(t *testing.T) {
	const calls, length = 8, 5
	all := 1
	for range length {
		all *= calls
	}
	for sequence := range all {
		a := roomFor(t, 4+2+2*length)
		c, d := on(t, a, 5, 6), table(t, a)
		ids := [2]int{begin(t, d), begin(t, d)}
		objects := [2]plain{{5, 5, -1}, {6, 6, -1}}
		for rest, step := sequence, 0; step < length; rest, step = rest/calls, step+1 {
			call := rest % calls
			who := ids[call&1]
			if call < 4 {
				objects[call>>1] = open(t, c, d, objects[call>>1], call>>1, who, int64(100+step))
			} else {
				objects = turn(d, objects, who, []api.Status{api.Committed, api.Aborted}[call>>1&1])
			}
			checkValues(t, c, d, objects[0].was, objects[1].was)
		}
		if t.Failed() {
			t.Fatal("sequence", sequence)
		}
	}
}

// open lets an attempt own an object with a new value, if it is Active, and answers what the object must be then.
func open(t *testing.T, c *cells.Cells, d *desc.Table, is plain, obj, who int, v int64) plain {
	t.Helper()
	if d.Status(who) != api.Active {
		return is
	}
	has := load(t, c, obj)
	l, e := c.Locator(has)
	if e != api.OK {
		t.Fatalf("Locator(%d): error %d", has, e)
	}
	next := build(t, c, who, cells.Resolve(l, d.Status(l.Owner)), version(t, c, v))
	if !c.Swap(obj, has, next) || c.Swap(obj, has, next) {
		t.Errorf("of two swaps of %d from %d not just the first one is true", obj, has)
	}
	return plain{is.was, v, who}
}

// turn turns an attempt, and answers what the objects must be then.
func turn(d *desc.Table, objects [2]plain, who int, to api.Status) [2]plain {
	if !d.Turn(who, to) {
		return objects
	}
	for i, is := range objects {
		if is.owner == who && to == api.Committed {
			objects[i] = plain{is.becomes, is.becomes, -1}
		}
	}
	return objects
}

// P4.1 to P4.5, the chapter's example.
func TestExample(t *testing.T) {
	a := roomFor(t, 10)
	c, d := on(t, a, 5), table(t, a)
	if n, e := c.Load(0); n != 1 || e != api.OK {
		t.Errorf("Load(0): %d, error %d", n, e)
	}
	if v, e := c.Current(d, 0); v != 5 || e != api.OK {
		t.Errorf("Current: %d, error %d", v, e)
	}
	id := begin(t, d)
	at := build(t, c, id, 0, version(t, c, 7))
	if id != 2 || !c.Swap(0, 1, at) {
		t.Errorf("the descriptor is %d, or the swap to %d is false", id, at)
	}
	if v, e := c.Current(d, 0); v != 5 || e != api.OK {
		t.Errorf("Current, swapped: %d, error %d", v, e)
	}
	d.Turn(id, api.Committed)
	if v, e := c.Current(d, 0); v != 7 || e != api.OK {
		t.Errorf("Current, committed: %d, error %d", v, e)
	}
}
