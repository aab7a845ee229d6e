package lang_test

import (
	"bytes"
	"math"
	"slices"
	"testing"

	"quarrel/api"
	"quarrel/lang"
)

// numbers are ordinary ones, the edges of kinds, objects, Args and bytes among them, and the ends of what an int can be.
func numbers() []int {
	return []int{
		0, 1, 2, 3, 4, 5, 6, 7, 8, 9, 10, 64, 126, 127, 128, 129, 254, 255, 256, 257, 258, 259, 260, 261, 262, 512, 65_536,
		math.MaxInt32, math.MaxInt32 + 1, math.MaxInt32 + 2, 1<<32 + 1, math.MaxInt - 1, math.MaxInt,
		-1, -2, -3, -8, -127, -128, -129, -130, -255, -256, -257, math.MinInt32, -1<<32 + 1, math.MinInt + 1, math.MinInt,
	}
}

// args are the numbers, as an Arg.
func args() []int64 {
	var l []int64
	for _, n := range numbers() {
		l = append(l, int64(n))
	}
	return l
}

// kinds are the five kinds of operations.
func kinds() []int { return []int{api.Read, api.Write, api.Set, api.Add, api.Release} }

// onObject says whether a kind is of an object; else it has an Arg.
func onObject(kind int) bool {
	return kind == api.Read || kind == api.Write || kind == api.Release
}

// read reads an object.
func read(obj int) api.Op { return api.Op{Kind: api.Read, Obj: obj} }

// write writes an object.
func write(obj int) api.Op { return api.Op{Kind: api.Write, Obj: obj} }

// release releases an object.
func release(obj int) api.Op { return api.Op{Kind: api.Release, Obj: obj} }

// set sets the sum.
func set(arg int64) api.Op { return api.Op{Kind: api.Set, Arg: arg} }

// add adds to the sum.
func add(arg int64) api.Op { return api.Op{Kind: api.Add, Arg: arg} }

// every is each operation that may be, of so many objects.
func every(objects int) []api.Op {
	var l []api.Op
	for obj := range objects {
		l = append(l, read(obj), write(obj), release(obj))
	}
	for arg := int64(-128); arg <= 127; arg++ {
		l = append(l, set(arg), add(arg))
	}
	return l
}

// wrong are operations that may not be, of so many objects: each of another fault.
func wrong(objects int) []api.Op {
	l := []api.Op{
		{}, {Kind: 6}, {Kind: -1}, {Kind: 7}, {Kind: 257}, {Kind: math.MaxInt}, {Kind: math.MinInt},
		set(-129), set(128), set(256), set(math.MaxInt64), set(math.MinInt64),
		add(-129), add(128), add(256), add(math.MaxInt64), add(math.MinInt64),
		{Kind: api.Set, Obj: 1}, {Kind: api.Set, Obj: -1, Arg: 5}, {Kind: api.Add, Obj: 1, Arg: 5}, {Kind: api.Add, Obj: -1},
	}
	for _, kind := range []int{api.Read, api.Write, api.Release} {
		l = append(l, api.Op{Kind: kind, Obj: objects}, api.Op{Kind: kind, Obj: objects + 1}, api.Op{Kind: kind, Obj: -1},
			api.Op{Kind: kind, Obj: math.MaxInt}, api.Op{Kind: kind, Obj: math.MinInt}, api.Op{Kind: kind, Arg: 1}, api.Op{Kind: kind, Arg: -1})
	}
	return l
}

// checkOk asks whether an operation may be.
func checkOk(t *testing.T, o api.Op, objects int, want bool) {
	t.Helper()
	if may := lang.Ok(o, objects); may != want {
		t.Errorf("Ok(%+v, %d): %v", o, objects, may)
	}
}

// checkRight asks whether a list is a transaction.
func checkRight(t *testing.T, l []api.Op, objects int, want bool) {
	t.Helper()
	if is := lang.Right(l, objects); is != want {
		t.Errorf("Right(%+v, %d): %v", l, objects, is)
	}
}

// checkSum asks for the sum behind an operation.
func checkSum(t *testing.T, o api.Op, sum, want int64) {
	t.Helper()
	if s := lang.Sum(o, sum); s != want {
		t.Errorf("Sum(%+v, %d): %d, not %d", o, sum, s, want)
	}
}

// checkAlone does a transaction alone, and looks whether what was handed in is as it was.
func checkAlone(t *testing.T, l []api.Op, values, want []int64) {
	t.Helper()
	ops, first := slices.Clone(l), slices.Clone(values)
	got, e := lang.Alone(l, values)
	if e != api.OK || !slices.Equal(got, want) {
		t.Errorf("Alone(%+v, %d): %d, error %d, not %d", l, values, got, e, want)
	}
	if !slices.Equal(l, ops) || !slices.Equal(values, first) {
		t.Errorf("Alone(%+v, %d): handed in are %+v, %d then", ops, first, l, values)
	}
}

// checkForm asks for what is no transaction.
func checkForm(t *testing.T, l []api.Op, values []int64) {
	t.Helper()
	first := slices.Clone(values)
	if got, e := lang.Alone(l, values); e != api.ErrForm || len(got) != 0 {
		t.Errorf("Alone(%+v, %d): %d, error %d", l, values, got, e)
	}
	if !slices.Equal(values, first) {
		t.Errorf("Alone(%+v, %d): handed in are %d then", l, first, values)
	}
}

// checkPut asks for the bytes of operations.
func checkPut(t *testing.T, want []byte, l ...api.Op) {
	t.Helper()
	was := slices.Clone(l)
	if b := lang.Put(l...); !bytes.Equal(b, want) {
		t.Errorf("Put(%+v): %d, not %d", l, b, want)
	}
	if !slices.Equal(l, was) {
		t.Errorf("Put(%+v): handed in are %+v then", was, l)
	}
}

// checkGet asks for the operations of bytes, that all may be.
func checkGet(t *testing.T, b []byte, objects int, want ...api.Op) {
	t.Helper()
	was := bytes.Clone(b)
	if l, at, e := lang.Get(b, objects); e != api.OK || at != -1 || !slices.Equal(l, want) {
		t.Errorf("Get(%d, %d): %+v, place %d, error %d, not %+v", b, objects, l, at, e, want)
	}
	if !bytes.Equal(b, was) {
		t.Errorf("Get(%d, %d): handed in are %d then", was, objects, b)
	}
}

// checkFault asks for the place of what is wrong with bytes.
func checkFault(t *testing.T, b []byte, objects, place int, want api.Errno) {
	t.Helper()
	was := bytes.Clone(b)
	if l, at, e := lang.Get(b, objects); e != want || at != place || len(l) != 0 {
		t.Errorf("Get(%d, %d): %+v, place %d, error %d, not %d, %d", b, objects, l, at, e, place, want)
	}
	if !bytes.Equal(b, was) {
		t.Errorf("Get(%d, %d): handed in are %d then", was, objects, b)
	}
}

// The chapter's example.
func TestExample(t *testing.T) {
	checkAlone(t, []api.Op{read(0), add(5), write(1)}, []int64{7, 2}, []int64{7, 12})
}

// P11.1: of just five kinds there are operations that may be.
func TestOkByKind(t *testing.T) {
	for _, kind := range numbers() {
		for _, objects := range []int{1, 2, 8} {
			checkOk(t, api.Op{Kind: kind}, objects, kind >= 1 && kind <= 5)
		}
		checkOk(t, api.Op{Kind: kind}, 0, kind == 3 || kind == 4)
	}
	for kind := -300; kind <= 600; kind++ {
		checkOk(t, api.Op{Kind: kind}, 1, kind >= 1 && kind <= 5)
	}
	checkOk(t, api.Op{}, 8, false)
	checkOk(t, api.Op{Kind: 6}, 8, false)
}

// P11.1: the object 0, one below as many as there are, just as many, and below 0, of each kind.
func TestOkByObject(t *testing.T) {
	for objects := 1; objects <= 8; objects++ {
		for _, kind := range []int{api.Read, api.Write, api.Release} {
			for obj := range objects {
				checkOk(t, api.Op{Kind: kind, Obj: obj}, objects, true)
			}
			for _, obj := range []int{objects, objects + 1, 9, 64, 256, 257, 1 << 32, math.MaxInt, -1, -2, -objects, -256, math.MinInt} {
				checkOk(t, api.Op{Kind: kind, Obj: obj}, objects, false)
			}
		}
		for _, kind := range []int{api.Set, api.Add} {
			checkOk(t, api.Op{Kind: kind}, objects, true)
			for _, obj := range []int{1, objects - 1, objects, objects + 1, 256, 1 << 32, math.MaxInt, -1, -256, math.MinInt} {
				checkOk(t, api.Op{Kind: kind, Obj: obj, Arg: 5}, objects, obj == 0)
			}
		}
	}
}

// P11.1: the edges of an Arg, of each kind.
func TestOkByArg(t *testing.T) {
	for _, objects := range []int{1, 8} {
		for _, kind := range []int{api.Set, api.Add} {
			for _, arg := range []int64{-128, -127, -1, 0, 1, 126, 127} {
				checkOk(t, api.Op{Kind: kind, Arg: arg}, objects, true)
				checkOk(t, api.Op{Kind: kind, Obj: 1, Arg: arg}, objects, false)
			}
			for _, arg := range []int64{-129, 128, -130, 129, -256, 255, 256, 257, 1 << 32, -1 << 32, math.MaxInt64, math.MinInt64} {
				checkOk(t, api.Op{Kind: kind, Arg: arg}, objects, false)
			}
		}
		for _, kind := range []int{api.Read, api.Write, api.Release} {
			for _, arg := range args() {
				checkOk(t, api.Op{Kind: kind, Arg: arg}, objects, arg == 0)
			}
		}
	}
}

// P11.1: where there are no objects, or fewer than none, just Set and Add may be.
func TestOkOfNoObjects(t *testing.T) {
	for _, objects := range []int{0, -1, -2, -8, math.MinInt32, math.MinInt + 1, math.MinInt} {
		for _, kind := range kinds() {
			for _, obj := range []int{0, 1, -1, objects, objects - 1, objects + 1, math.MaxInt, math.MinInt} {
				checkOk(t, api.Op{Kind: kind, Obj: obj}, objects, !onObject(kind) && obj == 0)
			}
		}
		checkOk(t, set(-128), objects, true)
		checkOk(t, add(127), objects, true)
		checkOk(t, set(128), objects, false)
		checkOk(t, add(-129), objects, false)
	}
}

// may is what the chapter says of an operation, each word of it for itself.
func may(o api.Op, objects int) bool {
	isKind := slices.Contains(kinds(), o.Kind)
	hasObject := o.Obj == 0
	hasArg := o.Arg >= -128 && o.Arg <= 127
	if onObject(o.Kind) {
		hasObject = o.Obj >= 0 && o.Obj < objects
		hasArg = o.Arg == 0
	}
	return isKind && hasObject && hasArg
}

// P11.1: of any numbers it is told what the chapter says, the same each time.
func TestOkOfAnyNumbers(t *testing.T) {
	for kind := -2; kind <= 8; kind++ {
		for _, obj := range numbers() {
			for _, arg := range args() {
				for _, objects := range numbers() {
					o := api.Op{Kind: kind, Obj: obj, Arg: arg}
					checkOk(t, o, objects, may(o, objects))
				}
			}
		}
	}
}

// P11.1: a transaction has one to eight operations.
func TestRightByLength(t *testing.T) {
	for _, objects := range []int{1, 2, 8} {
		checkRight(t, nil, objects, false)
		checkRight(t, []api.Op{}, objects, false)
		for _, o := range []api.Op{read(0), write(0), release(objects - 1), set(-128), add(127)} {
			for n := 1; n <= 40; n++ {
				checkRight(t, slices.Repeat([]api.Op{o}, n), objects, n <= 8)
			}
			checkRight(t, slices.Repeat([]api.Op{o}, 1000), objects, false)
		}
	}
}

// P11.1: a list of which just one operation may not be is no transaction, wherever that one stands.
func TestRightWithOneWrong(t *testing.T) {
	for _, objects := range []int{1, 3, 8} {
		for n := 1; n <= 8; n++ {
			l := slices.Repeat([]api.Op{read(0), add(1), write(objects - 1), release(0)}, 2)[:n]
			checkRight(t, l, objects, true)
			for at := range n {
				for _, o := range wrong(objects) {
					with := slices.Clone(l)
					with[at] = o
					checkRight(t, with, objects, false)
				}
				for _, o := range every(objects) {
					with := slices.Clone(l)
					with[at] = o
					checkRight(t, with, objects, true)
				}
			}
		}
	}
}

// P11.1: a list is a transaction of as many objects as it needs, and of more, and of no fewer.
func TestRightByObjects(t *testing.T) {
	for last := range 8 {
		for _, o := range []api.Op{read(last), write(last), release(last)} {
			for _, objects := range numbers() {
				checkRight(t, []api.Op{set(3), o}, objects, objects > last)
				checkRight(t, []api.Op{o, set(3)}, objects, objects > last)
			}
		}
	}
	for _, objects := range numbers() {
		checkRight(t, []api.Op{set(3), add(4)}, objects, true)
		checkRight(t, nil, objects, false)
	}
}

// P11.1: the list stays as it is, what lies behind it too.
func TestRightLeavesItsList(t *testing.T) {
	room := slices.Repeat([]api.Op{read(0), add(1)}, 6)
	was := slices.Clone(room)
	for n := range 13 {
		checkRight(t, room[:n], 1, n >= 1 && n <= 8)
		checkRight(t, room[:n], 0, false)
	}
	if !slices.Equal(room, was) {
		t.Errorf("%+v, not %+v", room, was)
	}
}

// P11.1: the sum behind Set is its Arg, behind Add that much more, behind others as it was.
func TestSum(t *testing.T) {
	for _, sum := range args() {
		for _, arg := range args() {
			checkSum(t, set(arg), sum, arg)
			checkSum(t, add(arg), sum, sum+arg)
		}
		for _, kind := range numbers() {
			if kind == api.Set || kind == api.Add {
				continue
			}
			for _, obj := range numbers() {
				checkSum(t, api.Op{Kind: kind, Obj: obj}, sum, sum)
				checkSum(t, api.Op{Kind: kind, Obj: obj, Arg: 5}, sum, sum)
			}
		}
	}
	checkSum(t, set(5), 7, 5)
	checkSum(t, set(-128), 7, -128)
	checkSum(t, add(5), 7, 12)
	checkSum(t, add(-128), 7, -121)
	checkSum(t, add(0), 7, 7)
	checkSum(t, set(0), 7, 0)
	checkSum(t, read(0), 7, 7)
	checkSum(t, write(0), 7, 7)
	checkSum(t, release(0), 7, 7)
	checkSum(t, api.Op{}, 7, 7)
}

// P11.1: a sum goes round in 64 bits, upwards and downwards.
func TestSumGoesRound(t *testing.T) {
	checkSum(t, add(1), math.MaxInt64, math.MinInt64)
	checkSum(t, add(127), math.MaxInt64, math.MinInt64+126)
	checkSum(t, add(127), math.MaxInt64-126, math.MinInt64)
	checkSum(t, add(127), math.MaxInt64-127, math.MaxInt64)
	checkSum(t, add(-1), math.MinInt64, math.MaxInt64)
	checkSum(t, add(-128), math.MinInt64, math.MaxInt64-127)
	checkSum(t, add(-128), math.MinInt64+127, math.MaxInt64)
	checkSum(t, add(-128), math.MinInt64+128, math.MinInt64)
	checkSum(t, add(math.MinInt64), math.MinInt64, 0)
	checkSum(t, add(math.MaxInt64), math.MaxInt64, -2)
	checkSum(t, add(math.MinInt64), math.MaxInt64, -1)
}

// P11.2: what a transaction makes of the values, written out.
func TestAlone(t *testing.T) {
	for _, q := range []struct {
		l           []api.Op
		first, want []int64
	}{
		{[]api.Op{read(0)}, []int64{7}, []int64{7}},
		{[]api.Op{read(0), add(1), write(0)}, []int64{5}, []int64{6}},
		{[]api.Op{set(5), write(0)}, []int64{1, 2}, []int64{5, 2}},
		{[]api.Op{set(-128), write(1)}, []int64{1, 2}, []int64{1, -128}},
		{[]api.Op{read(1), write(0)}, []int64{1, 2}, []int64{2, 2}},
		// A write ahead of any read, and of any Set and Add: the sum is 0 at first.
		{[]api.Op{write(0)}, []int64{9}, []int64{0}},
		{[]api.Op{write(1), read(0), write(2)}, []int64{9, 8, 7}, []int64{9, 0, 9}},
		{[]api.Op{add(5), write(0)}, []int64{9}, []int64{5}},
		{[]api.Op{add(-5), write(0), read(0), add(-5), write(1)}, []int64{9, 9}, []int64{-5, -10}},
		// A sum is kept behind a write and a release; a read and a Set take its place.
		{[]api.Op{set(3), write(0), write(1), add(1), write(2)}, []int64{9, 9, 9}, []int64{3, 3, 4}},
		{[]api.Op{set(3), read(0), write(1)}, []int64{9, 8}, []int64{9, 9}},
		{[]api.Op{read(0), set(3), write(1)}, []int64{9, 8}, []int64{9, 3}},
		{[]api.Op{add(3), add(4), set(1), add(2), add(-4), write(0)}, []int64{9}, []int64{-1}},
		// Several writes of one object: the last one stays.
		{[]api.Op{set(1), write(0), set(2), write(0), set(3), write(0)}, []int64{9, 8}, []int64{3, 8}},
		// Reads behind writes of the same object have what was written.
		{[]api.Op{read(0), add(1), write(0), read(0), add(1), write(0), read(0), write(1)}, []int64{5, 0}, []int64{7, 7}},
		{[]api.Op{set(4), write(1), set(0), read(1), write(0)}, []int64{9, 8}, []int64{4, 4}},
		// Releases between change nothing.
		{[]api.Op{read(0), release(0), add(1), write(0), release(0), read(0), release(1), write(1)}, []int64{5, 9}, []int64{6, 6}},
		{[]api.Op{release(0)}, []int64{5}, []int64{5}},
		{[]api.Op{release(1), release(1), read(1), release(1), write(0)}, []int64{5, 9}, []int64{9, 9}},
		// What is moved from one object to another.
		{[]api.Op{read(0), add(-3), write(0), read(1), add(3), write(1)}, []int64{10, 20}, []int64{7, 23}},
		// Eight operations, on eight objects.
		{[]api.Op{read(7), add(1), write(0), write(1), write(2), write(3), write(4), write(5)}, []int64{1, 2, 3, 4, 5, 6, 7, 8}, []int64{9, 9, 9, 9, 9, 9, 7, 8}},
	} {
		checkAlone(t, q.l, q.first, q.want)
	}
}

// P11.2: sums of values go round in 64 bits, upwards and downwards.
func TestAloneGoesRound(t *testing.T) {
	checkAlone(t, []api.Op{read(0), add(1), write(1)}, []int64{math.MaxInt64, 0}, []int64{math.MaxInt64, math.MinInt64})
	checkAlone(t, []api.Op{read(0), add(-1), write(0)}, []int64{math.MinInt64}, []int64{math.MaxInt64})
	checkAlone(t, []api.Op{read(0), add(127), add(127), write(0)}, []int64{math.MaxInt64 - 127}, []int64{math.MinInt64 + 126})
	checkAlone(t, []api.Op{read(0), add(-128), add(127), write(0)}, []int64{math.MinInt64}, []int64{math.MaxInt64})
	checkAlone(t, []api.Op{read(0), write(1)}, []int64{math.MinInt64, math.MaxInt64}, []int64{math.MinInt64, math.MinInt64})
}

// P11.2: of no values there are transactions too, which leave none.
func TestAloneOfNoValues(t *testing.T) {
	for _, values := range [][]int64{nil, {}} {
		checkAlone(t, []api.Op{set(5)}, values, nil)
		checkAlone(t, []api.Op{set(5), add(-128), add(127)}, values, nil)
		checkForm(t, nil, values)
		for _, o := range []api.Op{read(0), write(0), release(0), {}, {Kind: 6}, set(128), add(-129), read(-1)} {
			checkForm(t, []api.Op{o}, values)
			checkForm(t, []api.Op{set(5), o}, values)
		}
	}
}

// P11.2: what is no transaction of as many objects as there are values isn't done, not even what is ahead of its fault.
func TestAloneOfWhatIsNoTransaction(t *testing.T) {
	for objects := range 9 {
		values := slices.Repeat([]int64{-7}, objects)
		checkForm(t, nil, values)
		checkForm(t, []api.Op{}, values)
		checkForm(t, slices.Repeat([]api.Op{set(3)}, 9), values)
		checkForm(t, slices.Repeat([]api.Op{set(3)}, 40), values)
		for _, o := range wrong(objects) {
			checkForm(t, []api.Op{o}, values)
			checkForm(t, []api.Op{o, set(3), add(1)}, values)
			checkForm(t, []api.Op{set(3), o, add(1)}, values)
			checkForm(t, []api.Op{set(3), add(1), o}, values)
			if objects > 0 {
				checkForm(t, []api.Op{set(3), write(0), read(0), add(1), write(objects - 1), set(1), write(0), o}, values)
			}
		}
	}
}

// plain is a transaction that is done alone, written down as it is.
func plain(l []api.Op, first []int64) []int64 {
	values, sum := slices.Clone(first), int64(0)
	for _, o := range l {
		if o.Kind == api.Read {
			sum = values[o.Obj]
		} else if o.Kind == api.Write {
			values[o.Obj] = sum
		} else if o.Kind == api.Set {
			sum = o.Arg
		} else if o.Kind == api.Add {
			sum += o.Arg
		}
	}
	return values
}

// P11.2: all transactions of some operations leave what one leaves that is written down: all short ones, and some of each length.
func TestAloneOfMany(t *testing.T) {
	ops := []api.Op{read(0), read(1), write(0), write(1), set(-128), set(3), add(127), add(-1), release(0), release(1)}
	first := []int64{math.MaxInt64 - 1, -40}
	n := len(ops)
	for row := range n * n * n * n {
		l := []api.Op{ops[row%n], ops[row/n%n], ops[row/n/n%n], ops[row/n/n/n]}
		checkAlone(t, l, first, plain(l, first))
	}
	at := uint32(1)
	for i := range 20_000 {
		var l []api.Op
		for range 1 + i%8 {
			at = at*1_664_525 + 1_013_904_223
			l = append(l, ops[int(at>>16)%n])
		}
		checkAlone(t, l, first, plain(l, first))
	}
}

// P11.2: the sum of a transaction that is done alone is what Sum says of each operation that isn't a read.
func TestAloneAsSumSays(t *testing.T) {
	for _, sum := range args() {
		for arg := int64(-128); arg <= 127; arg++ {
			for _, o := range []api.Op{set(arg), add(arg)} {
				checkAlone(t, []api.Op{read(0), o, write(1)}, []int64{sum, 3}, []int64{sum, lang.Sum(o, sum)})
			}
		}
		for _, o := range []api.Op{write(0), release(0), release(1)} {
			checkAlone(t, []api.Op{read(0), o, write(1)}, []int64{sum, 3}, []int64{sum, lang.Sum(o, sum)})
		}
	}
}

// P11.2: the values that are answered are the caller's own: those that were handed in aren't kept, nor are they the same memory.
func TestAloneKeepsNothing(t *testing.T) {
	room := []int64{1, 2, 3, 4}
	l := []api.Op{set(5), write(1), read(0)}
	got, _ := lang.Alone(l, room[:2])
	if !slices.Equal(room, []int64{1, 2, 3, 4}) {
		t.Errorf("handed in: %d", room)
	}
	room[0], l[0] = 99, set(77)
	if !slices.Equal(got, []int64{1, 5}) {
		t.Errorf("answered: %d", got)
	}
	room[0], l[0] = 1, set(5)
	again, _ := lang.Alone(l, room[:2])
	got[0], got[1] = -1, -1
	got = append(got, -2, -2)
	if !slices.Equal(again, []int64{1, 5}) || !slices.Equal(room, []int64{1, 2, 3, 4}) || len(got) != 4 {
		t.Errorf("answered: %d; handed in: %d", again, room)
	}
	same, _ := lang.Alone([]api.Op{set(5)}, room[:2])
	same[0] = -1
	if room[0] != 1 {
		t.Errorf("handed in: %d", room)
	}
}

// P11.2: those that open are of the Kinds Read and Write, whatever else they have.
func TestOpens(t *testing.T) {
	for _, q := range []struct {
		l    []api.Op
		want int
	}{
		{nil, 0}, {[]api.Op{}, 0},
		{[]api.Op{read(0)}, 1}, {[]api.Op{write(0)}, 1}, {[]api.Op{set(1)}, 0}, {[]api.Op{add(1)}, 0}, {[]api.Op{release(0)}, 0},
		{[]api.Op{read(0), add(1), write(0)}, 2},
		{[]api.Op{read(0), read(0), write(0), read(0), write(0)}, 5},
		{[]api.Op{set(1), release(0), add(2)}, 0},
		{[]api.Op{{}, {Kind: 6}, {Kind: -1}, {Kind: 257}, {Kind: 258}, {Kind: -2}, {Kind: math.MaxInt}, {Kind: math.MinInt}}, 0},
		// Whether they may be isn't asked, nor how many they are.
		{[]api.Op{read(-1), write(99), {Kind: api.Read, Arg: 300}, {Kind: api.Write, Obj: math.MinInt, Arg: math.MinInt64}, {}}, 4},
		{slices.Repeat([]api.Op{read(0), set(1), write(8)}, 100), 200},
	} {
		was := slices.Clone(q.l)
		if n := lang.Opens(q.l); n != q.want {
			t.Errorf("Opens(%+v): %d, not %d", q.l, n, q.want)
		}
		if !slices.Equal(q.l, was) {
			t.Errorf("Opens(%+v): handed in are %+v then", was, q.l)
		}
	}
	for _, kind := range numbers() {
		want := 0
		if kind == 1 || kind == 2 {
			want = 1
		}
		if n := lang.Opens([]api.Op{{Kind: kind}}); n != want {
			t.Errorf("Opens, of the Kind %d: %d", kind, n)
		}
	}
}

// P11.3: an operation's bytes are its Kind, its Obj and its Arg, and those of several ones stand one behind the other.
func TestPut(t *testing.T) {
	checkPut(t, nil)
	checkPut(t, nil, []api.Op{}...)
	checkPut(t, []byte{1, 7, 0}, read(7))
	checkPut(t, []byte{2, 0, 0}, write(0))
	checkPut(t, []byte{3, 0, 5}, set(5))
	checkPut(t, []byte{4, 0, 255}, add(-1))
	checkPut(t, []byte{5, 3, 0}, release(3))
	checkPut(t, []byte{3, 0, 127, 3, 0, 128, 4, 0, 129, 4, 0, 0}, set(127), set(-128), add(-127), add(0))
	checkPut(t, []byte{1, 0, 0, 4, 0, 5, 2, 1, 0}, read(0), add(5), write(1))
	checkPut(t, []byte{2, 1, 0, 4, 0, 5, 1, 0, 0}, write(1), add(5), read(0))
	checkPut(t, slices.Repeat([]byte{5, 2, 0}, 300), slices.Repeat([]api.Op{release(2)}, 300)...)
}

// P11.3: what may not be is put as well; whatever there is of more than a byte is cut, of each of the three for itself.
func TestPutCuts(t *testing.T) {
	checkPut(t, []byte{0, 0, 0}, api.Op{})
	checkPut(t, []byte{6, 9, 1}, api.Op{Kind: 6, Obj: 9, Arg: 1})
	checkPut(t, []byte{255, 255, 255}, api.Op{Kind: 255, Obj: 255, Arg: 255})
	checkPut(t, []byte{0, 0, 0}, api.Op{Kind: 256, Obj: 256, Arg: 256})
	checkPut(t, []byte{1, 2, 3}, api.Op{Kind: 257, Obj: 258, Arg: 259})
	checkPut(t, []byte{255, 254, 253}, api.Op{Kind: -1, Obj: -2, Arg: -3})
	checkPut(t, []byte{127, 127, 127}, api.Op{Kind: -129, Obj: -129, Arg: -129})
	checkPut(t, []byte{128, 128, 128}, api.Op{Kind: 128, Obj: 128, Arg: 128})
	checkPut(t, []byte{0, 0, 0}, api.Op{Kind: -256, Obj: -256, Arg: -256})
	checkPut(t, []byte{0x45, 0x67, 0x89}, api.Op{Kind: 0x12345, Obj: 0x4567, Arg: 0x123456789})
	checkPut(t, []byte{255, 255, 255}, api.Op{Kind: math.MaxInt, Obj: math.MaxInt, Arg: math.MaxInt64})
	checkPut(t, []byte{0, 0, 0}, api.Op{Kind: math.MinInt, Obj: math.MinInt, Arg: math.MinInt64})
	checkPut(t, []byte{1, 0, 0, 0, 255, 1}, api.Op{Kind: 1, Obj: 256, Arg: -256}, api.Op{Kind: 512, Obj: -1, Arg: 257})
	for _, n := range numbers() {
		cut := byte(n & 255)
		checkPut(t, []byte{cut, 0, 0}, api.Op{Kind: n})
		checkPut(t, []byte{0, cut, 0}, api.Op{Obj: n})
		checkPut(t, []byte{0, 0, cut}, api.Op{Arg: int64(n)})
	}
}

// P11.3: the operations of bytes, written out.
func TestGet(t *testing.T) {
	checkGet(t, nil, 2)
	checkGet(t, []byte{}, 2)
	checkGet(t, []byte{1, 1, 0}, 2, read(1))
	checkGet(t, []byte{1, 0, 0, 4, 0, 5, 2, 1, 0}, 2, read(0), add(5), write(1))
	checkGet(t, []byte{5, 7, 0, 3, 0, 255}, 8, release(7), set(-1))
	// More than a transaction has are got as well: how many there may be isn't asked.
	checkGet(t, slices.Repeat([]byte{3, 0, 1}, 9), 1, slices.Repeat([]api.Op{set(1)}, 9)...)
	checkGet(t, slices.Repeat([]byte{2, 7, 0}, 1000), 8, slices.Repeat([]api.Op{write(7)}, 1000)...)
}

// P11.3: an Arg's byte is of two's complement.
func TestGetArgs(t *testing.T) {
	checkGet(t, []byte{3, 0, 127}, 1, set(127))
	checkGet(t, []byte{3, 0, 128}, 1, set(-128))
	checkGet(t, []byte{3, 0, 255}, 1, set(-1))
	checkGet(t, []byte{4, 0, 0, 4, 0, 1, 4, 0, 129, 4, 0, 254}, 1, add(0), add(1), add(-127), add(-2))
	for b := range 256 {
		want := int64(b)
		if b >= 128 {
			want -= 256
		}
		checkGet(t, []byte{3, 0, byte(b), 4, 0, byte(b)}, 0, set(want), add(want))
		for _, kind := range []byte{1, 2, 5} {
			if b > 0 {
				checkFault(t, []byte{kind, 0, byte(b)}, 1, 0, api.ErrForm)
			}
		}
	}
}

// P11.3: of no objects, and of fewer than none, just Set and Add are got; no bytes are right of any number of objects.
func TestGetByObjects(t *testing.T) {
	for _, objects := range numbers() {
		checkGet(t, nil, objects)
		checkGet(t, []byte{3, 0, 9, 4, 0, 8}, objects, set(9), add(8))
		for obj := range 256 {
			for _, kind := range []byte{1, 2, 5} {
				b := []byte{3, 0, 9, kind, byte(obj), 0}
				if obj < objects {
					checkGet(t, b, objects, set(9), api.Op{Kind: int(kind), Obj: obj})
				} else {
					checkFault(t, b, objects, 3, api.ErrForm)
				}
			}
			if obj > 0 {
				checkFault(t, []byte{4, byte(obj), 1}, objects, 0, api.ErrForm)
			}
		}
	}
}

// P11.3: all that three bytes can be, of some numbers of objects.
func TestGetOfAnyThree(t *testing.T) {
	// How many objects there are goes round, so that each kind is asked of all of them.
	objects := []int{-1, 0, 1, 3, 8, 300}
	for n := range 1 << 24 {
		b := []byte{byte(n >> 16), byte(n >> 8), byte(n)}
		// Of bytes that are no kind's just the edges are asked with each Obj and Arg, so that it doesn't take long.
		if b[0] > 7 && b[0] < 250 && (b[1] > 1 || b[2] > 1) {
			continue
		}
		o := api.Op{Kind: int(b[0]), Obj: int(b[1]), Arg: int64(b[2])}
		if b[2] >= 128 {
			o.Arg -= 256
		}
		many := objects[n%len(objects)]
		if l, at, e := lang.Get(b, many); may(o, many) && (e != api.OK || at != -1 || len(l) != 1 || l[0] != o) {
			t.Fatalf("Get(%d, %d): %+v, place %d, error %d", b, many, l, at, e)
		} else if !may(o, many) && (e != api.ErrForm || at != 0 || len(l) != 0) {
			t.Fatalf("Get(%d, %d): %+v, place %d, error %d", b, many, l, at, e)
		}
	}
}

// P11.3: bytes that end within an operation are short: where that one begins.
func TestGetShort(t *testing.T) {
	b := []byte{1, 0, 0, 4, 0, 5, 2, 1, 0, 3, 0, 1}
	all := []api.Op{read(0), add(5), write(1), set(1)}
	for n := range len(b) + 1 {
		if n%3 == 0 {
			checkGet(t, b[:n], 2, all[:n/3]...)
		} else {
			checkFault(t, b[:n], 2, n-n%3, api.ErrShort)
		}
	}
	// What there is of one that is short isn't asked whether it may be.
	for _, short := range [][]byte{{0}, {6}, {255}, {9, 9}, {0, 0}, {1, 255}, {3, 1}} {
		checkFault(t, short, 2, 0, api.ErrShort)
		checkFault(t, append([]byte{3, 0, 7}, short...), 0, 3, api.ErrShort)
		checkFault(t, append([]byte{3, 0, 7, 4, 0, 7}, short...), -1, 6, api.ErrShort)
	}
}

// P11.3: the first operation that may not be is told, ahead of others, and ahead of one that is short; an operation that may be says nothing of one that is short behind it.
func TestGetFirstFault(t *testing.T) {
	good := []byte{1, 0, 0}
	bads := [][]byte{{0, 0, 0}, {6, 0, 0}, {255, 0, 0}, {1, 1, 0}, {2, 255, 0}, {5, 8, 0}, {1, 0, 1}, {2, 0, 255}, {3, 1, 0}, {4, 255, 1}}
	for _, bad := range bads {
		for _, other := range append(bads, good) {
			for _, tail := range [][]byte{nil, {1}, {1, 0}, {6}, {0, 0}} {
				checkFault(t, slices.Concat(bad, other, tail), 1, 0, api.ErrForm)
				checkFault(t, slices.Concat(good, bad, other, tail), 1, 3, api.ErrForm)
				checkFault(t, slices.Concat(good, good, bad, tail), 1, 6, api.ErrForm)
				checkFault(t, slices.Concat(bad, tail), 1, 0, api.ErrForm)
				if len(tail) > 0 {
					checkFault(t, slices.Concat(good, good, tail), 1, 6, api.ErrShort)
				}
			}
		}
		for n := range 12 {
			checkFault(t, slices.Concat(slices.Repeat(good, n), bad, good), 1, 3*n, api.ErrForm)
		}
	}
}

// P11.3: what was put and got is the caller's own.
func TestBytesAreNotKept(t *testing.T) {
	l := []api.Op{read(0), set(5)}
	b := lang.Put(l...)
	l[0] = write(3)
	if !bytes.Equal(b, []byte{1, 0, 0, 3, 0, 5}) {
		t.Errorf("put: %d", b)
	}
	again := lang.Put(read(0), set(5))
	room := append(b, 9, 9)[:6]
	got, _, _ := lang.Get(room, 1)
	room[0], room[5] = 77, 78
	if !slices.Equal(got, []api.Op{read(0), set(5)}) || !bytes.Equal(again, []byte{1, 0, 0, 3, 0, 5}) {
		t.Errorf("got: %+v; put: %d", got, again)
	}
	if spare := room[:8]; spare[6] != 9 || spare[7] != 9 {
		t.Errorf("behind what was handed in: %d", spare)
	}
	other, _, _ := lang.Get(again, 1)
	got[0], got[1] = api.Op{}, api.Op{}
	if !slices.Equal(other, []api.Op{read(0), set(5)}) {
		t.Errorf("got: %+v", other)
	}
}

// P11.4: each operation that may be, and was put, is got as it was: alone, and among others.
func TestPutAndGotEach(t *testing.T) {
	for _, objects := range []int{-1, 0, 1, 2, 7, 8, 128, 256} {
		l := every(max(objects, 0))
		for _, o := range l {
			checkGet(t, lang.Put(o), objects, o)
			checkGet(t, lang.Put(o, add(-7), o), objects, o, add(-7), o)
		}
		checkGet(t, lang.Put(l...), objects, l...)
		slices.Reverse(l)
		checkGet(t, lang.Put(l...), objects, l...)
	}
}

// P11.4: transactions of each length, with operations of each kind, are got as they were, and do the same.
func TestPutAndGotTransactions(t *testing.T) {
	ops, at := every(8), uint32(7)
	first := []int64{1, -2, 3, -4, 5, -6, math.MaxInt64, math.MinInt64}
	for i := range 20_000 {
		var l []api.Op
		for range 1 + i%8 {
			at = at*1_664_525 + 1_013_904_223
			l = append(l, ops[int(at>>8)%len(ops)])
		}
		checkGet(t, lang.Put(l...), 8, l...)
		got, _, _ := lang.Get(lang.Put(l...), 8)
		checkRight(t, got, 8, true)
		checkAlone(t, got, first, plain(l, first))
	}
}

// P11.4: what was got is put as those bytes.
func TestGotAndPut(t *testing.T) {
	b := []byte{1, 7, 0, 2, 0, 0, 3, 0, 128, 4, 0, 127, 5, 3, 0, 3, 0, 0, 4, 0, 255}
	l, _, e := lang.Get(b, 8)
	if e != api.OK {
		t.Fatalf("error %d", e)
	}
	checkPut(t, b, l...)
}
