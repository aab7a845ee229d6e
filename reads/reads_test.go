package reads_test

import (
	"math"
	"slices"
	"testing"

	"quarrel/api"
	"quarrel/reads"
)

// numbers are ordinary ones, those that are alike where something is cut, and the ends of what an int can be.
func numbers() []int {
	return []int{
		0, 1, 2, 3, 6, 7, 8, 9, 64, 127, 128, 254, 255, 256, 257, 4095, 4096, 65_535, 65_536,
		math.MaxInt32, math.MaxInt32 + 1, 1 << 32, 1<<32 + 1, math.MaxInt - 1, math.MaxInt,
		-1, -2, -3, -8, -128, -255, -256, math.MinInt32, -1 << 32, math.MinInt + 1, math.MinInt,
	}
}

// reading is a reading of an object that is like no other one of these.
func reading(obj int) reads.Reading {
	return reads.Reading{Obj: obj, Version: 10 + 2*obj, Val: int64(100 - 3*obj)}
}

// readings are such ones, of these objects.
func readings(objects ...int) []reads.Reading {
	var l []reads.Reading
	for _, obj := range objects {
		l = append(l, reading(obj))
	}
	return l
}

// own is an own one that is like no other one of these; of each second object it is Claimed.
func own(obj int) reads.Own {
	return reads.Own{Obj: obj, Locator: 1000 + obj, Version: 500 - 7*obj, Val: int64(5*obj - 40), Claimed: obj%2 != 0}
}

// owns are such ones, of these objects.
func owns(objects ...int) []reads.Own {
	var l []reads.Own
	for _, obj := range objects {
		l = append(l, own(obj))
	}
	return l
}

// otherReadings are readings of an object, each pair of which differs.
func otherReadings(obj int) []reads.Reading {
	l := []reads.Reading{{Obj: obj}}
	for _, n := range numbers() {
		l = append(l, reads.Reading{Obj: obj, Version: n, Val: 7}, reads.Reading{Obj: obj, Version: 7, Val: int64(n)}, reads.Reading{Obj: obj, Version: n, Val: int64(n)})
	}
	return l
}

// otherOwns are own ones of an object: each field differs, and all of them together.
func otherOwns(obj int) []reads.Own {
	l := []reads.Own{{Obj: obj}, {Obj: obj, Claimed: true}}
	for _, n := range numbers() {
		l = append(l,
			reads.Own{Obj: obj, Locator: n}, reads.Own{Obj: obj, Version: n}, reads.Own{Obj: obj, Val: int64(n)},
			reads.Own{Obj: obj, Locator: n, Version: n, Val: int64(n)}, reads.Own{Obj: obj, Locator: n, Version: n, Val: int64(n), Claimed: true})
	}
	return l
}

// add adds readings, each of an object that has none.
func add(t *testing.T, s *reads.Set, l ...reads.Reading) {
	t.Helper()
	for _, r := range l {
		if e := s.Add(r); e != api.OK {
			t.Fatalf("Add(%+v): error %d", r, e)
		}
	}
}

// put puts own ones.
func put(s *reads.Set, l ...reads.Own) {
	for _, o := range l {
		s.Put(o)
	}
}

// of is a set of readings and own ones of these objects.
func of(t *testing.T, read, mine []int) *reads.Set {
	t.Helper()
	s := reads.New()
	if s == nil {
		t.Fatal("New: nil")
	}
	add(t, s, readings(read...)...)
	put(s, owns(mine...)...)
	return s
}

// drop releases an object's reading, and asks whether there was one.
func drop(t *testing.T, s *reads.Set, obj int, want bool) {
	t.Helper()
	if was := s.Drop(obj); was != want {
		t.Errorf("Drop(%d): %v", obj, was)
	}
}

// checkHas asks for an object's reading.
func checkHas(t *testing.T, s *reads.Set, want reads.Reading) {
	t.Helper()
	if r, has := s.Has(want.Obj); r != want || !has {
		t.Errorf("Has(%d): %+v, %v, not %+v", want.Obj, r, has, want)
	}
}

// checkHasNone asks for the reading of an object that has none.
func checkHasNone(t *testing.T, s *reads.Set, obj int) {
	t.Helper()
	if r, has := s.Has(obj); r != (reads.Reading{}) || has {
		t.Errorf("Has(%d): %+v, %v", obj, r, has)
	}
}

// checkMine asks for an object's own one.
func checkMine(t *testing.T, s *reads.Set, want reads.Own) {
	t.Helper()
	if o, is := s.Mine(want.Obj); o != want || !is {
		t.Errorf("Mine(%d): %+v, %v, not %+v", want.Obj, o, is, want)
	}
}

// checkMineNone asks for the own one of an object that has none.
func checkMineNone(t *testing.T, s *reads.Set, obj int) {
	t.Helper()
	if o, is := s.Mine(obj); o != (reads.Own{}) || is {
		t.Errorf("Mine(%d): %+v, %v", obj, o, is)
	}
}

// checkAll asks a set for all that it tells, twice, so that asking changes nothing.
func checkAll(t *testing.T, s *reads.Set, read []reads.Reading, mine []reads.Own) {
	t.Helper()
	for range 2 {
		if l := s.Readings(); !slices.Equal(l, read) {
			t.Errorf("Readings: %+v, not %+v", l, read)
		}
		if l := s.Owns(); !slices.Equal(l, mine) {
			t.Errorf("Owns: %+v, not %+v", l, mine)
		}
		if l, want := s.Unclaimed(), unclaimed(read, mine); !slices.Equal(l, want) {
			t.Errorf("Unclaimed: %+v, not %+v", l, want)
		}
		for _, obj := range numbers() {
			checkObject(t, s, obj, read, mine)
		}
	}
}

// checkObject asks a set for what it tells of one object.
func checkObject(t *testing.T, s *reads.Set, obj int, read []reads.Reading, mine []reads.Own) {
	t.Helper()
	if at := slices.IndexFunc(read, func(r reads.Reading) bool { return r.Obj == obj }); at >= 0 {
		checkHas(t, s, read[at])
	} else {
		checkHasNone(t, s, obj)
	}
	if at := slices.IndexFunc(mine, func(o reads.Own) bool { return o.Obj == obj }); at >= 0 {
		checkMine(t, s, mine[at])
	} else {
		checkMineNone(t, s, obj)
	}
}

// unclaimed is what the chapter says of these readings and own ones.
func unclaimed(read []reads.Reading, mine []reads.Own) []reads.Reading {
	taken := map[int]bool{}
	for _, o := range mine {
		taken[o.Obj] = true
	}
	return slices.DeleteFunc(slices.Clone(read), func(r reads.Reading) bool { return taken[r.Obj] })
}

// The chapter's example.
func TestExample(t *testing.T) {
	s := of(t, []int{0, 1}, []int{1})
	if l := s.Unclaimed(); !slices.Equal(l, readings(0)) {
		t.Errorf("Unclaimed: %+v", l)
	}
	drop(t, s, 0, true)
	if l := s.Unclaimed(); len(l) != 0 {
		t.Errorf("Unclaimed: %+v", l)
	}
}

// P12.1: a new set has nothing, of no object, and nothing to release.
func TestEmpty(t *testing.T) {
	s := of(t, nil, nil)
	checkAll(t, s, nil, nil)
	for _, obj := range numbers() {
		drop(t, s, obj, false)
	}
	checkAll(t, s, nil, nil)
}

// P12.1: one reading, of any numbers, is told as it is, and of its own object alone.
func TestAddOne(t *testing.T) {
	for _, obj := range numbers() {
		for _, r := range otherReadings(obj) {
			s := reads.New()
			add(t, s, r)
			checkAll(t, s, []reads.Reading{r}, nil)
		}
	}
}

// P12.1: a reading stands behind all others, whatever their objects, versions and values are.
func TestAddSeveral(t *testing.T) {
	for _, objects := range [][]int{
		{0, 1}, {1, 0}, {0, 1, 2, 3, 4, 5, 6, 7}, {7, 6, 5, 4, 3, 2, 1, 0}, {3, 1, 4, 0, 5, 2, 6}, {9, -1, 0, 255, -256, 256}, numbers(),
	} {
		s := reads.New()
		for i, obj := range objects {
			add(t, s, reading(obj))
			checkAll(t, s, readings(objects[:i+1]...), nil)
		}
	}
	// Versions and values that are alike don't make two readings one.
	s := reads.New()
	alike := []reads.Reading{{Obj: 4, Version: 2, Val: 9}, {Obj: 2, Version: 2, Val: 9}, {Obj: 9, Version: 2, Val: 9}, {Obj: 0}}
	add(t, s, alike...)
	checkAll(t, s, alike, nil)
}

// P12.1: of an object that has a reading none is added, be it the same one or another one, and nothing changes.
func TestAddWhereThereIsOne(t *testing.T) {
	for _, objects := range [][]int{{0}, {-1}, {0, 1}, {1, 0, 2}, {math.MaxInt, math.MinInt, 0}} {
		s := of(t, objects, []int{5})
		for _, obj := range objects {
			for _, r := range append(otherReadings(obj), reading(obj)) {
				if e := s.Add(r); e != api.ErrState {
					t.Fatalf("Add(%+v): error %d", r, e)
				}
			}
			checkAll(t, s, readings(objects...), owns(5))
		}
	}
}

// P12.1: readings are released: the only one, the first one, the last one, one between, and one that there is not; the others stay in their order.
func TestDrop(t *testing.T) {
	for _, q := range []struct {
		objects []int
		obj     int
		left    []int
	}{
		{[]int{0}, 0, nil},
		{[]int{-7}, -7, nil},
		{[]int{4, 2}, 4, []int{2}},
		{[]int{4, 2}, 2, []int{4}},
		{[]int{4, 2, 0, 3}, 4, []int{2, 0, 3}},
		{[]int{4, 2, 0, 3}, 2, []int{4, 0, 3}},
		{[]int{4, 2, 0, 3}, 0, []int{4, 2, 3}},
		{[]int{4, 2, 0, 3}, 3, []int{4, 2, 0}},
		{[]int{1, math.MaxInt, math.MinInt}, math.MaxInt, []int{1, math.MinInt}},
		{[]int{1, math.MaxInt, math.MinInt}, math.MinInt, []int{1, math.MaxInt}},
	} {
		s := of(t, q.objects, nil)
		drop(t, s, q.obj, true)
		checkAll(t, s, readings(q.left...), nil)
		// It is no more: it isn't released a second time.
		drop(t, s, q.obj, false)
		checkAll(t, s, readings(q.left...), nil)
	}
	s := of(t, []int{4, 2, 0}, nil)
	for _, obj := range numbers() {
		if obj != 0 && obj != 2 {
			drop(t, s, obj, false)
		}
	}
	checkAll(t, s, readings(4, 2, 0), nil)
}

// orders are all orders of some numbers.
func orders(l []int) [][]int {
	if len(l) == 0 {
		return [][]int{nil}
	}
	var all [][]int
	for at := range l {
		for _, rest := range orders(slices.Delete(slices.Clone(l), at, at+1)) {
			all = append(all, append([]int{l[at]}, rest...))
		}
	}
	return all
}

// P12.1: all are released, in each order, and none is left.
func TestDropAll(t *testing.T) {
	objects := []int{2, 0, 3, 1}
	for _, order := range orders(objects) {
		s, left := of(t, objects, nil), slices.Clone(objects)
		for _, obj := range order {
			drop(t, s, obj, true)
			left = slices.DeleteFunc(left, func(n int) bool { return n == obj })
			checkAll(t, s, readings(left...), nil)
		}
	}
}

// P12.1: one that is added again behind its release stands behind all others, as it is now.
func TestAddAgain(t *testing.T) {
	objects := []int{2, 0, 3, 1}
	for _, obj := range objects {
		others := slices.DeleteFunc(slices.Clone(objects), func(n int) bool { return n == obj })
		for _, again := range append(otherReadings(obj), reading(obj)) {
			s := of(t, objects, nil)
			drop(t, s, obj, true)
			add(t, s, again)
			checkAll(t, s, append(readings(others...), again), nil)
			if e := s.Add(reading(obj)); e != api.ErrState {
				t.Errorf("Add(%d): error %d", obj, e)
			}
			drop(t, s, obj, true)
			checkAll(t, s, readings(others...), nil)
		}
	}
	// The only one, again and again.
	s := reads.New()
	for _, r := range otherReadings(6) {
		add(t, s, r)
		checkAll(t, s, []reads.Reading{r}, nil)
		drop(t, s, 6, true)
		checkAll(t, s, nil, nil)
	}
}

// P12.2: one own one, of any numbers, is told as it is, and of its own object alone.
func TestPutOne(t *testing.T) {
	for _, obj := range numbers() {
		for _, o := range otherOwns(obj) {
			s := reads.New()
			s.Put(o)
			checkAll(t, s, nil, []reads.Own{o})
		}
	}
}

// P12.2: own ones of several objects stand one behind the other, as they were put.
func TestPutSeveral(t *testing.T) {
	for _, objects := range [][]int{
		{0, 1}, {1, 0}, {0, 1, 2, 3, 4, 5, 6, 7}, {7, 6, 5, 4, 3, 2, 1, 0}, {3, 1, 4, 0, 5, 2, 6}, {9, -1, 0, 255, -256, 256}, numbers(),
	} {
		s := reads.New()
		for i, obj := range objects {
			s.Put(own(obj))
			checkAll(t, s, nil, owns(objects[:i+1]...))
		}
	}
	// Locators, versions and values that are alike don't make two own ones one.
	s := reads.New()
	alike := []reads.Own{{Obj: 4, Locator: 3, Version: 2, Val: 9}, {Obj: 2, Locator: 3, Version: 2, Val: 9}, {Obj: 9, Locator: 3, Version: 2, Val: 9, Claimed: true}, {Obj: 0}}
	put(s, alike...)
	checkAll(t, s, nil, alike)
}

// P12.2: one that is put again is whole in the place of the one that there is: the first one's, the last one's, one's between, the only one's.
func TestPutAgain(t *testing.T) {
	for _, objects := range [][]int{{0}, {-1}, {4, 2}, {4, 2, 0, 3}, {math.MaxInt, math.MinInt, 0}} {
		s, want := of(t, []int{1, 2}, objects), owns(objects...)
		for at, obj := range objects {
			for _, o := range append(otherOwns(obj), own(obj)) {
				s.Put(o)
				want[at] = o
				checkAll(t, s, readings(1, 2), want)
				s.Put(o)
				checkAll(t, s, readings(1, 2), want)
			}
		}
		s.Put(own(9))
		checkAll(t, s, readings(1, 2), append(want, own(9)))
	}
}

// P12.2: each field alone comes as it was put, Claimed either way.
func TestPutAgainByField(t *testing.T) {
	s := reads.New()
	for _, o := range []reads.Own{
		{Obj: 3, Locator: 5, Version: 6, Val: 7},
		{Obj: 3, Locator: 8, Version: 6, Val: 7},
		{Obj: 3, Locator: 8, Version: 9, Val: 7},
		{Obj: 3, Locator: 8, Version: 9, Val: 10},
		{Obj: 3, Locator: 8, Version: 9, Val: 10, Claimed: true},
		{Obj: 3, Locator: 8, Version: 9, Val: 10},
		{Obj: 3},
		{Obj: 3, Claimed: true},
	} {
		s.Put(o)
		checkAll(t, s, nil, []reads.Own{o})
	}
}

// P12.1, P12.2: an object's reading and its own one have nothing to do with each other.
func TestReadingsAndOwnsApart(t *testing.T) {
	s := of(t, []int{0, 1}, []int{1, 2})
	checkAll(t, s, readings(0, 1), owns(1, 2))
	drop(t, s, 2, false)
	checkAll(t, s, readings(0, 1), owns(1, 2))
	drop(t, s, 1, true)
	checkAll(t, s, readings(0), owns(1, 2))
	s.Put(own(0))
	checkAll(t, s, readings(0), owns(1, 2, 0))
	add(t, s, reading(2), reading(1))
	checkAll(t, s, readings(0, 2, 1), owns(1, 2, 0))
	for _, obj := range []int{0, 1, 2} {
		if e := s.Add(reads.Reading{Obj: obj}); e != api.ErrState {
			t.Errorf("Add(%d): error %d", obj, e)
		}
		drop(t, s, obj, true)
	}
	checkAll(t, s, nil, owns(1, 2, 0))
}

// P12.3: of each lot of readings and own ones, those that are unclaimed, written out.
func TestUnclaimed(t *testing.T) {
	for _, q := range []struct{ read, mine, want []int }{
		{nil, nil, nil},
		{nil, []int{0, 1}, nil},
		{[]int{3}, nil, []int{3}},
		{[]int{3}, []int{3}, nil},
		{[]int{3}, []int{2}, []int{3}},
		{[]int{3, 0, 2}, nil, []int{3, 0, 2}},
		{[]int{3, 0, 2}, []int{1, 4}, []int{3, 0, 2}},
		{[]int{3, 0, 2}, []int{3}, []int{0, 2}},
		{[]int{3, 0, 2}, []int{0}, []int{3, 2}},
		{[]int{3, 0, 2}, []int{2}, []int{3, 0}},
		{[]int{3, 0, 2}, []int{2, 3}, []int{0}},
		{[]int{3, 0, 2}, []int{2, 3, 0}, nil},
		{[]int{3, 0, 2}, []int{5, 2, 0, 3, 1}, nil},
		{[]int{-1, math.MinInt, 255, math.MaxInt}, []int{math.MaxInt, 256, 1}, []int{-1, math.MinInt, 255}},
	} {
		s := of(t, q.read, q.mine)
		if l := s.Unclaimed(); !slices.Equal(l, readings(q.want...)) {
			t.Errorf("Unclaimed, of the readings %d and the own ones %d: %+v", q.read, q.mine, l)
		}
		checkAll(t, s, readings(q.read...), owns(q.mine...))
	}
}

// P12.3: an own one claims its object whatever else it says, whether it was put ahead of the reading or behind it; who is released is no reading.
func TestUnclaimedByTime(t *testing.T) {
	for _, o := range otherOwns(2) {
		s := of(t, []int{1, 2, 3}, nil)
		s.Put(o)
		checkAll(t, s, readings(1, 2, 3), []reads.Own{o})
		ahead := reads.New()
		ahead.Put(o)
		add(t, ahead, readings(1, 2, 3)...)
		for _, each := range []*reads.Set{s, ahead} {
			if l := each.Unclaimed(); !slices.Equal(l, readings(1, 3)) {
				t.Errorf("Unclaimed, of the own one %+v: %+v", o, l)
			}
			drop(t, each, 2, true)
			drop(t, each, 1, true)
			if l := each.Unclaimed(); !slices.Equal(l, readings(3)) {
				t.Errorf("Unclaimed, of the own one %+v: %+v", o, l)
			}
		}
	}
}

// P12.3: a nil set has nothing, and takes nothing, whatever it is asked of.
func TestNilSet(t *testing.T) {
	var s *reads.Set
	for range 2 {
		checkAll(t, s, nil, nil)
		for _, obj := range numbers() {
			for _, r := range []reads.Reading{reading(obj), {Obj: obj}} {
				if e := s.Add(r); e != api.ErrNone {
					t.Errorf("Add(%+v): error %d", r, e)
				}
			}
			drop(t, s, obj, false)
			s.Put(own(obj))
		}
	}
}

// P12.1, P12.2: what was handed in is as it was, and what the caller makes of it then isn't seen.
func TestHandedInIsNotKept(t *testing.T) {
	s := reads.New()
	r, o := reading(3), own(3)
	add(t, s, r)
	s.Put(o)
	if r != reading(3) || o != own(3) {
		t.Errorf("handed in are %+v, %+v then", r, o)
	}
	r.Obj, r.Version, r.Val = 4, 1, 2
	o.Obj, o.Locator, o.Version, o.Val, o.Claimed = 4, 1, 2, 3, false
	checkAll(t, s, readings(3), owns(3))
	l := readings(5, 6)
	add(t, s, l...)
	l[0], l[1] = reading(8), reading(9)
	checkAll(t, s, readings(3, 5, 6), owns(3))
}

// spoil lets all of a list be another thing, what lies behind it too.
func spoil[T any](l []T, with T) {
	l = l[:cap(l)]
	for at := range l {
		l[at] = with
	}
}

// P12.3: who changes what was told changes nothing in the set, nor in what was told to others.
func TestToldIsNotKept(t *testing.T) {
	for n := range 9 {
		var objects []int
		for obj := range n {
			objects = append(objects, obj)
		}
		half := objects[:n/2]
		s := of(t, objects, half)
		read, mine, left := s.Readings(), s.Owns(), s.Unclaimed()
		spoil(s.Readings(), reading(77))
		spoil(s.Owns(), own(77))
		spoil(s.Unclaimed(), reading(77))
		checkAll(t, s, readings(objects...), owns(half...))
		// Behind the lists that were spoiled there is room, which mustn't be the set's.
		add(t, s, reading(50))
		s.Put(own(51))
		checkAll(t, s, append(readings(objects...), reading(50)), append(owns(half...), own(51)))
		if !slices.Equal(read, readings(objects...)) || !slices.Equal(mine, owns(half...)) || !slices.Equal(left, readings(objects[n/2:]...)) {
			t.Errorf("told were %+v, %+v, %+v", read, mine, left)
		}
	}
}

// P12.3: what was told stays as it was, whatever is done to the set then; so does one thing that was told.
func TestToldStays(t *testing.T) {
	s := of(t, []int{0, 1, 2, 3}, []int{3, 4})
	read, mine, left := s.Readings(), s.Owns(), s.Unclaimed()
	r, _ := s.Has(1)
	o, _ := s.Mine(3)
	drop(t, s, 0, true)
	drop(t, s, 1, true)
	add(t, s, reads.Reading{Obj: 1, Version: 66, Val: 67}, reading(0))
	put(s, reads.Own{Obj: 3, Locator: 68}, reads.Own{Obj: 4, Claimed: true}, own(2))
	if !slices.Equal(read, readings(0, 1, 2, 3)) || !slices.Equal(mine, owns(3, 4)) || !slices.Equal(left, readings(0, 1, 2)) {
		t.Errorf("told were %+v, %+v, %+v", read, mine, left)
	}
	if r != reading(1) || o != own(3) {
		t.Errorf("told were %+v, %+v", r, o)
	}
	r.Val, o.Val = 1, 2
	checkHas(t, s, reads.Reading{Obj: 1, Version: 66, Val: 67})
	checkMine(t, s, reads.Own{Obj: 3, Locator: 68})
}

// P12.3: the three lists share nothing, nor do two tellings of one of them.
func TestToldApart(t *testing.T) {
	s := of(t, []int{0, 1, 2}, []int{5})
	first, second, left := s.Readings(), s.Readings(), s.Unclaimed()
	spoil(first, reading(9))
	if !slices.Equal(second, readings(0, 1, 2)) || !slices.Equal(left, readings(0, 1, 2)) {
		t.Errorf("told were %+v, %+v", second, left)
	}
	spoil(left, reading(8))
	if !slices.Equal(second, readings(0, 1, 2)) {
		t.Errorf("told were %+v", second)
	}
	mine, again := s.Owns(), s.Owns()
	spoil(mine, own(9))
	if !slices.Equal(again, owns(5)) {
		t.Errorf("told were %+v", again)
	}
	// What is put behind a list that was told isn't seen behind another one.
	a, b := append(s.Readings(), reading(6)), append(s.Readings(), reading(7))
	if a[3] != reading(6) || b[3] != reading(7) {
		t.Errorf("behind what was told: %+v, %+v", a[3], b[3])
	}
}

// P12.1, P12.2: two sets have nothing to do with each other.
func TestTwoSets(t *testing.T) {
	a, b := reads.New(), reads.New()
	add(t, a, readings(0, 1, 2)...)
	put(a, owns(1, 4)...)
	checkAll(t, b, nil, nil)
	add(t, b, reads.Reading{Obj: 1, Version: 90, Val: 91}, reading(5))
	put(b, reads.Own{Obj: 1, Locator: 92}, own(2))
	checkAll(t, a, readings(0, 1, 2), owns(1, 4))
	checkAll(t, b, []reads.Reading{{Obj: 1, Version: 90, Val: 91}, reading(5)}, []reads.Own{{Obj: 1, Locator: 92}, own(2)})
	drop(t, a, 1, true)
	drop(t, a, 5, false)
	a.Put(reads.Own{Obj: 4, Locator: 93})
	checkAll(t, a, readings(0, 2), []reads.Own{own(1), {Obj: 4, Locator: 93}})
	checkAll(t, b, []reads.Reading{{Obj: 1, Version: 90, Val: 91}, reading(5)}, []reads.Own{{Obj: 1, Locator: 92}, own(2)})
	drop(t, b, 5, true)
	drop(t, b, 1, true)
	checkAll(t, a, readings(0, 2), []reads.Own{own(1), {Obj: 4, Locator: 93}})
	checkAll(t, b, nil, []reads.Own{{Obj: 1, Locator: 92}, own(2)})
}

// call is a call that changes a set, or tries to.
type call struct {
	adds, drops bool
	r           reads.Reading
	o           reads.Own
}

// on makes the call, and asks what it answers of a set that has these: it tells what it has then.
func (c call) on(t *testing.T, s *reads.Set, read []reads.Reading, mine []reads.Own) ([]reads.Reading, []reads.Own) {
	t.Helper()
	isIt := func(r reads.Reading) bool { return r.Obj == c.r.Obj }
	there := slices.ContainsFunc(read, isIt)
	switch {
	case c.adds && there:
		if e := s.Add(c.r); e != api.ErrState {
			t.Errorf("Add(%+v): error %d", c.r, e)
		}
	case c.adds:
		add(t, s, c.r)
		read = append(slices.Clone(read), c.r)
	case c.drops:
		drop(t, s, c.r.Obj, there)
		read = slices.DeleteFunc(slices.Clone(read), isIt)
	default:
		s.Put(c.o)
		mine = slices.Clone(mine)
		if at := slices.IndexFunc(mine, func(o reads.Own) bool { return o.Obj == c.o.Obj }); at >= 0 {
			mine[at] = c.o
		} else {
			mine = append(mine, c.o)
		}
	}
	return read, mine
}

// calls are those of some objects, each object's in two ways.
func calls(objects int) []call {
	var l []call
	for obj := range objects {
		l = append(l,
			call{adds: true, r: reading(obj)}, call{adds: true, r: reads.Reading{Obj: obj, Version: 3, Val: 4}}, call{drops: true, r: reads.Reading{Obj: obj}},
			call{o: own(obj)}, call{o: reads.Own{Obj: obj, Locator: 5, Version: 6, Val: 7, Claimed: true}})
	}
	return l
}

// checkOnes asks whether each object has one reading, and one own one, at most, in all that is told.
func checkOnes(t *testing.T, s *reads.Set) {
	t.Helper()
	read, mine, left := map[int]int{}, map[int]int{}, map[int]int{}
	for _, r := range s.Readings() {
		read[r.Obj]++
	}
	for _, o := range s.Owns() {
		mine[o.Obj]++
	}
	for _, r := range s.Unclaimed() {
		left[r.Obj]++
	}
	for _, many := range []map[int]int{read, mine, left} {
		for obj, n := range many {
			if n > 1 {
				t.Errorf("the object %d stands %d times in one list", obj, n)
			}
		}
	}
}

// P12.4: whatever is called, in all short rows of calls, each object has one reading, and one own one, at most; and all is told as the chapter's words have it.
func TestAllShortRows(t *testing.T) {
	all := calls(2)
	for n := range 10_000 {
		s, rest := reads.New(), n
		var read []reads.Reading
		var mine []reads.Own
		for range 4 {
			read, mine = all[rest%len(all)].on(t, s, read, mine)
			rest /= len(all)
		}
		checkOnes(t, s)
		if l := s.Readings(); !slices.Equal(l, read) {
			t.Errorf("row %d: Readings: %+v, not %+v", n, l, read)
		}
		if l := s.Owns(); !slices.Equal(l, mine) {
			t.Errorf("row %d: Owns: %+v, not %+v", n, l, mine)
		}
		if l, want := s.Unclaimed(), unclaimed(read, mine); !slices.Equal(l, want) {
			t.Errorf("row %d: Unclaimed: %+v, not %+v", n, l, want)
		}
		for obj := range 3 {
			checkObject(t, s, obj, read, mine)
		}
		if t.Failed() {
			return
		}
	}
}

// P12.4: so it is in long rows of calls, of as many objects as there may be, and of more.
func TestLongRows(t *testing.T) {
	for _, objects := range []int{1, 3, 8, 40} {
		all, at := calls(objects), uint32(objects)
		s := reads.New()
		var read []reads.Reading
		var mine []reads.Own
		for range 1500 {
			at = at*1_664_525 + 1_013_904_223
			read, mine = all[int(at>>8)%len(all)].on(t, s, read, mine)
			checkAll(t, s, read, mine)
			checkOnes(t, s)
			if t.Failed() {
				return
			}
		}
	}
}

// P12.4: of many objects, too.
func TestManyObjects(t *testing.T) {
	var objects []int
	for n := range 2000 {
		objects = append(objects, (n*7919)%2000-1000)
	}
	s := of(t, objects, objects[:500])
	for range 2 {
		for _, obj := range objects {
			if e := s.Add(reading(obj)); e != api.ErrState {
				t.Fatalf("Add(%d): error %d", obj, e)
			}
		}
		put(s, owns(objects[:500]...)...)
	}
	checkAll(t, s, readings(objects...), owns(objects[:500]...))
	checkOnes(t, s)
}
