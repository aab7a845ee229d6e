package arena_test

import (
	"math"
	"testing"

	"quarrel/api"
	"quarrel/arena"
)

// rooms are the edges that the chapter names, and ordinary ones between.
func rooms() []int {
	return []int{1, 2, 3, 7, 64, 255, 256, 1000, 4095, 4096}
}

// of is an empty arena, with which a test can go on.
func of[T any](t *testing.T, n int) *arena.Arena[T] {
	t.Helper()
	a, e := arena.New[T](n)
	if a == nil || e != api.OK {
		t.Fatalf("New(%d): an arena: %v, error %d", n, a != nil, e)
	}
	return a
}

// put puts a thing, and asks for the number that it must have.
func put[T any](t *testing.T, a *arena.Arena[T], v T, want int) {
	t.Helper()
	if n, e := a.Put(v); n != want || e != api.OK {
		t.Fatalf("Put, of the thing %d: %d, error %d", want, n, e)
	}
}

// at asks for the thing that a number must have.
func at[T comparable](t *testing.T, a *arena.Arena[T], i int, want T) {
	t.Helper()
	if v, e := a.At(i); v != want || e != api.OK {
		t.Errorf("At(%d): %v, error %d, not %v", i, v, e, want)
	}
}

// none asks for things of numbers that have none: just those below 0, and those above the last one's.
func none[T comparable](t *testing.T, a *arena.Arena[T], has int) {
	t.Helper()
	var zero T
	for _, i := range []int{-1, -2, -has, -has - 1, math.MinInt32, math.MinInt, has, has + 1, 2*has + 1, 4096, 4097, math.MaxInt32, math.MaxInt} {
		if i >= 0 && i < has {
			continue
		}
		if v, e := a.At(i); v != zero || e != api.ErrNone {
			t.Errorf("of %d things, At(%d): %v, error %d", has, i, v, e)
		}
	}
}

// counts asks for how many there are, and how many more have room.
func counts[T any](t *testing.T, a *arena.Arena[T], has, left int) {
	t.Helper()
	if n := a.Len(); n != has {
		t.Errorf("Len: %d, not %d", n, has)
	}
	if n := a.Left(); n != left {
		t.Errorf("Left: %d, not %d", n, left)
	}
}

// P2.1: room for 1 to 4,096 may be, and no other one; what is new is empty.
func TestNewRooms(t *testing.T) {
	for n := -300; n <= 4500; n++ {
		checkRoom(t, n)
	}
	for _, n := range []int{math.MinInt, math.MinInt32, -4096, -4097, 8192, 65537, math.MaxInt32, math.MaxInt} {
		checkRoom(t, n)
	}
}

func checkRoom(t *testing.T, n int) {
	t.Helper()
	if n < 1 || n > 4096 {
		if a, e := arena.New[int](n); a != nil || e != api.ErrRange {
			t.Errorf("New(%d): an arena: %v, error %d", n, a != nil, e)
		}
		if a, e := arena.New[api.Rec](n); a != nil || e != api.ErrRange {
			t.Errorf("New(%d), of records: an arena: %v, error %d", n, a != nil, e)
		}
		return
	}
	a := of[int](t, n)
	counts(t, a, 0, n)
	none(t, a, 0)
}

// P2.1: things have the numbers 0, 1, 2 and so on, as many as there is room for; where it is full, it stays so, and nothing is put.
func TestPut(t *testing.T) {
	for _, room := range rooms() {
		a := of[int](t, room)
		for want := range room {
			counts(t, a, want, room-want)
			put(t, a, -5*want-1, want)
			at(t, a, want, -5*want-1)
		}
		none(t, a, room)
		for range 3 {
			if n, e := a.Put(99); n != 0 || e != api.ErrFull {
				t.Errorf("room for %d, full: Put: %d, error %d", room, n, e)
			}
			counts(t, a, room, 0)
			none(t, a, room)
		}
		for i := range room {
			at(t, a, i, -5*i-1)
		}
	}
}

// P2.1: numbers below 0, or above the last thing's, have none, at each fill of an arena.
func TestAtWithoutThing(t *testing.T) {
	a := of[string](t, 9)
	for has := range 9 {
		none(t, a, has)
		put(t, a, "thing", has)
	}
	none(t, a, 9)
}

// P2.1: asking changes nothing, not even where there is nothing.
func TestAskingChangesNothing(t *testing.T) {
	a := of[int](t, 3)
	put(t, a, 7, 0)
	for range 3 {
		none(t, a, 1)
		at(t, a, 0, 7)
		counts(t, a, 1, 2)
	}
	put(t, a, 8, 1)
	at(t, a, 0, 7)
	at(t, a, 1, 8)
}

// P2.1: a thing that is zero is a thing, with a number, and takes room; things that are alike stand each for itself.
func TestZeroAndAlikeThings(t *testing.T) {
	a := of[int](t, 4)
	for want := range 2 {
		put(t, a, 0, want)
		at(t, a, want, 0)
	}
	put(t, a, 6, 2)
	put(t, a, 6, 3)
	at(t, a, 2, 6)
	at(t, a, 3, 6)
	counts(t, a, 4, 0)
	if n, e := a.Put(0); n != 0 || e != api.ErrFull {
		t.Errorf("full: Put(0): %d, error %d", n, e)
	}
}

// P2.1, the chapter's example.
func TestExample(t *testing.T) {
	a := of[string](t, 1)
	put(t, a, "a", 0)
	if n, e := a.Put("b"); n != 0 || e != api.ErrFull {
		t.Errorf("Put(b): %d, error %d", n, e)
	}
	at(t, a, 0, "a")
}

// P2.1: a nil arena has nothing, and room for nothing, whatever it is of.
func TestNilArena(t *testing.T) {
	checkNil(t, 5)
	checkNil(t, "a")
	checkNil(t, api.Rec{Kind: api.Version, Val: 3})
	checkNil(t, new(int))
}

func checkNil[T comparable](t *testing.T, v T) {
	t.Helper()
	var a *arena.Arena[T]
	for range 2 {
		if n, e := a.Put(v); n != 0 || e != api.ErrNone {
			t.Errorf("nil: Put(%v): %d, error %d", v, n, e)
		}
		none(t, a, 0)
		counts(t, a, 0, 0)
	}
}

// P2.1: an arena is of things of any type that can be held against each other.
func TestTypes(t *testing.T) {
	n, m := 1, 1
	checkType(t, "bool", true, false, true)
	checkType(t, "byte", byte(0), 255, 7)
	checkType(t, "int64", int64(math.MinInt64), 0, math.MaxInt64)
	checkType(t, "float64", math.Inf(-1), 0.5, math.MaxFloat64)
	checkType(t, "complex128", 1i, 0, 3+4i)
	checkType(t, "string", "", "a", "\xff\x00")
	checkType(t, "array", [2]int{1, 2}, [2]int{}, [2]int{2, 1})
	checkType(t, "empty struct", struct{}{}, struct{}{})
	checkType(t, "pointer", &n, nil, &m, &n)
	checkType[any](t, "any", nil, 1, "1", api.OK, &n, [1]int{1})
	checkType[error](t, "error", nil, failure(1), failure(2))
	checkType(t, "status", api.Active, api.Committed, api.Aborted, 0)
	checkType(t, "event", api.Event{Kind: api.EvBegin, Val: -1}, api.Event{}, api.Event{Reason: api.Self})
	checkType(t, "record",
		api.Rec{Kind: api.Version, Val: math.MinInt64},
		api.Rec{Kind: api.Locator, Owner: -1, Old: 0, New: 4095},
		api.Rec{},
		api.Rec{Kind: api.Descriptor, Thread: 1, Txn: 2, Attempt: 3, Stamp: 254})
}

// failure is an error of the tests' own.
type failure int

func (f failure) Error() string { return "failure" }

func checkType[T comparable](t *testing.T, name string, things ...T) {
	t.Run(name, func(t *testing.T) {
		a := of[T](t, len(things))
		for want, v := range things {
			none(t, a, want)
			put(t, a, v, want)
			counts(t, a, want+1, len(things)-want-1)
		}
		none(t, a, len(things))
		if n, e := a.Put(things[0]); n != 0 || e != api.ErrFull {
			t.Errorf("full: Put: %d, error %d", n, e)
		}
		for i, v := range things {
			at(t, a, i, v)
		}
	})
}

// P2.1: things that can't be held against each other may be put as well, lists, maps and functions, and nil ones.
func TestTypesWithoutEquals(t *testing.T) {
	lists := of[[]int](t, 2)
	put(t, lists, []int{3, 4}, 0)
	put(t, lists, nil, 1)
	if v, e := lists.At(0); e != api.OK || len(v) != 2 || v[0] != 3 || v[1] != 4 {
		t.Errorf("list 0: %v, error %d", v, e)
	}
	if v, e := lists.At(1); e != api.OK || v != nil {
		t.Errorf("list 1: %v, error %d", v, e)
	}
	if v, e := lists.At(2); e != api.ErrNone || v != nil {
		t.Errorf("list 2: %v, error %d", v, e)
	}
	maps := of[map[string]int](t, 1)
	put(t, maps, map[string]int{"a": 5}, 0)
	if v, e := maps.At(0); e != api.OK || len(v) != 1 || v["a"] != 5 {
		t.Errorf("map 0: %v, error %d", v, e)
	}
	functions := of[func() int](t, 2)
	put(t, functions, func() int { return 6 }, 0)
	put(t, functions, func() int { return 7 }, 1)
	for i := range 2 {
		if v, e := functions.At(i); e != api.OK || v == nil || v() != 6+i {
			t.Errorf("function %d: there is one: %v, error %d", i, v != nil, e)
		}
	}
	if v, e := functions.At(2); e != api.ErrNone || v != nil {
		t.Errorf("function 2: there is one: %v, error %d", v != nil, e)
	}
}

// P2.1: all short sequences of calls answer what a plain list with a limit does.
func TestSequences(t *testing.T) {
	const calls, length = 5, 6
	all := 1
	for range length {
		all *= calls
	}
	for room := 1; room <= 4; room++ {
		for sequence := range all {
			a, list := of[int](t, room), []int(nil)
			for rest, step := sequence, 0; step < length; rest, step = rest/calls, step+1 {
				if call := rest % calls; call < 2 {
					list = putBoth(t, a, list, room, 10*step+call)
				} else {
					askBoth(t, a, list, call-3)
				}
				counts(t, a, len(list), room-len(list))
			}
			if t.Failed() {
				t.Fatalf("room for %d, sequence %d", room, sequence)
			}
		}
	}
}

// putBoth puts a number into the arena and the list, and answers the list.
func putBoth(t *testing.T, a *arena.Arena[int], list []int, room, v int) []int {
	t.Helper()
	n, e := a.Put(v)
	if len(list) == room {
		if n != 0 || e != api.ErrFull {
			t.Errorf("full: Put(%d): %d, error %d", v, n, e)
		}
		return list
	}
	if n != len(list) || e != api.OK {
		t.Errorf("Put(%d): %d, error %d, not %d", v, n, e, len(list))
	}
	return append(list, v)
}

// askBoth asks the arena for the number i, of which the list tells what it must be.
func askBoth(t *testing.T, a *arena.Arena[int], list []int, i int) {
	t.Helper()
	want, wantError := 0, api.ErrNone
	if i >= 0 && i < len(list) {
		want, wantError = list[i], api.OK
	}
	if v, e := a.At(i); v != want || e != wantError {
		t.Errorf("At(%d): %d, error %d, not %d, error %d", i, v, e, want, wantError)
	}
}

// P2.2: behind each put all things that were put ahead of it stand as they were.
func TestThingsStand(t *testing.T) {
	a := of[api.Rec](t, 300)
	thing := func(i int) api.Rec {
		return api.Rec{Kind: 1 + i%3, Val: int64(i) * 7, Owner: -i, Old: i, New: i + 1, Thread: i % 6, Txn: i, Attempt: i * 2, Stamp: 255 - i}
	}
	for i := range 300 {
		put(t, a, thing(i), i)
		for j := range i + 1 {
			at(t, a, j, thing(j))
		}
	}
}

// P2.2: in the greatest arena the first things stand, when it is full, and when more is refused.
func TestGreatestArenaStands(t *testing.T) {
	a := of[int64](t, 4096)
	for i := range 4096 {
		put(t, a, int64(i)*int64(i)-8, i)
	}
	for range 2 {
		for i := range 4096 {
			at(t, a, i, int64(i)*int64(i)-8)
		}
		if n, e := a.Put(1); n != 0 || e != api.ErrFull {
			t.Errorf("full: Put: %d, error %d", n, e)
		}
	}
}

// P2.2: neither what is done to the variable that was put, nor to what was told, changes the thing that stands there.
func TestThingsAreApartFromVariables(t *testing.T) {
	records := of[api.Rec](t, 3)
	r := api.Rec{Kind: api.Version, Val: 1}
	put(t, records, r, 0)
	r.Val = 2
	at(t, records, 0, api.Rec{Kind: api.Version, Val: 1})
	told, _ := records.At(0)
	told.Val, told.Kind = 3, api.Locator
	at(t, records, 0, api.Rec{Kind: api.Version, Val: 1})
	put(t, records, r, 1)
	at(t, records, 0, api.Rec{Kind: api.Version, Val: 1})
	at(t, records, 1, api.Rec{Kind: api.Version, Val: 2})

	arrays := of[[3]int](t, 1)
	x := [3]int{1, 2, 3}
	put(t, arrays, x, 0)
	x[0] = 9
	y, _ := arrays.At(0)
	y[1] = 9
	at(t, arrays, 0, [3]int{1, 2, 3})
}

// P2.2: what is put into one arena plays no part for another one.
func TestArenasApart(t *testing.T) {
	a, b := of[int](t, 2), of[int](t, 2)
	put(t, a, 1, 0)
	counts(t, b, 0, 2)
	none(t, b, 0)
	put(t, b, 2, 0)
	put(t, a, 3, 1)
	put(t, b, 4, 1)
	at(t, a, 0, 1)
	at(t, b, 0, 2)
	at(t, a, 1, 3)
	at(t, b, 1, 4)
}
