package script_test

import (
	"slices"
	"testing"

	"quarrel/api"
	"quarrel/script"
)

// The chapter's example.
func TestExample(t *testing.T) {
	checkMay(t, example(), row("01 01 00 09 05 01 02, 07, 00, 00"))
}

// P20.1, P20.2: a script with something in each part, its bytes written out.
func TestOrdinary(t *testing.T) {
	checkMay(t, ordinary(), ordinaryRow())
}

// P20.1, P20.2: the ends of the config's fields, and an ordinary number of each; of Records both bytes count.
func TestConfigs(t *testing.T) {
	for _, q := range []struct {
		change func(*api.Config)
		head   string
	}{
		{func(c *api.Config) { c.Records = 2 }, "01 01 00 02 05 01 02"},
		{func(c *api.Config) { c.Records = 255 }, "01 01 00 ff 05 01 02"},
		{func(c *api.Config) { c.Records = 256 }, "01 01 01 00 05 01 02"},
		{func(c *api.Config) { c.Records = 258 }, "01 01 01 02 05 01 02"},
		{func(c *api.Config) { c.Records = 4095 }, "01 01 0f ff 05 01 02"},
		{func(c *api.Config) { c.Records = 4096 }, "01 01 10 00 05 01 02"},
		{func(c *api.Config) { c.Tickets = 0 }, "01 01 00 09 00 01 02"},
		{func(c *api.Config) { c.Tickets = 127 }, "01 01 00 09 7f 01 02"},
		{func(c *api.Config) { c.Tickets = 128 }, "01 01 00 09 80 01 02"},
		{func(c *api.Config) { c.Tickets = 255 }, "01 01 00 09 ff 01 02"},
		{func(c *api.Config) { c.Manager = api.Karma }, "01 01 00 09 05 02 02"},
		{func(c *api.Config) { c.Manager = api.Stamp }, "01 01 00 09 05 03 02"},
		{func(c *api.Config) { c.Manager = api.Greedy }, "01 01 00 09 05 04 02"},
		{func(c *api.Config) { c.Wait = 1 }, "01 01 00 09 05 01 01"},
		{func(c *api.Config) { c.Wait = 64 }, "01 01 00 09 05 01 40"},
	} {
		s := example()
		q.change(&s.C)
		checkMay(t, s, slices.Concat(row(q.head), row("07, 00, 00")))
	}
}

// P20.1: each number of Records for each number of objects: room for them is twice as many.
func TestRecords(t *testing.T) {
	for objects := 1; objects <= 8; objects++ {
		for records := -1; records <= 4100; records++ {
			s := example()
			s.C.Objects, s.C.Records, s.First = objects, records, make([]int64, objects)
			if records < 2*objects || records > 4096 {
				checkMayNot(t, s)
				continue
			}
			b := []byte{byte(objects), 1, byte(records / 256), byte(records % 256), 5, 1, 2}
			checkMay(t, s, slices.Concat(b, make([]byte, objects), row("00, 00")))
		}
	}
}

// P20.1, P20.2: one object and the most, each with first values from end to end.
func TestFirstValues(t *testing.T) {
	s := example()
	for v := -128; v <= 127; v++ {
		s.First[0] = int64(v)
		checkMay(t, s, slices.Concat(row("01 01 00 09 05 01 02"), []byte{byte((v + 256) % 256)}, row("00, 00")))
	}
	s.C.Objects, s.C.Records, s.First = 8, 16, []int64{-128, -127, -2, -1, 0, 1, 126, 127}
	checkMay(t, s, row("08 01 00 10 05 01 02, 80 81 fe ff 00 01 7e 7f, 00, 00"))
	for objects := 1; objects <= 8; objects++ {
		s.C.Objects, s.First = objects, []int64{1, 2, 3, 4, 5, 6, 7, 8}[:objects]
		b := row("01 02 03 04 05 06 07 08")[:objects]
		checkMay(t, s, slices.Concat([]byte{byte(objects)}, row("01 00 10 05 01 02"), b, row("00, 00")))
	}
}

// P20.1, P20.2: one thread and the most, without transactions, nil and empty lists, and with some.
func TestThreads(t *testing.T) {
	for threads := 1; threads <= 6; threads++ {
		for _, q := range []struct {
			txns [][]api.Op
			b    string
		}{
			{nil, "00"},
			{[][]api.Op{}, "00"},
			{lists("r0")[0], "01, 01, 010000"},
			{lists("r0/=-1 w0")[0], "02, 01, 010000, 02, 0300ff, 020000"},
			{lists("x0/x0/x0/x0/x0/x0")[0], "06, 01, 050000, 01, 050000, 01, 050000, 01, 050000, 01, 050000, 01, 050000"},
		} {
			s := example()
			s.C.Threads = threads
			s.All = slices.Repeat([][][]api.Op{q.txns}, threads)
			head := slices.Concat([]byte{1, byte(threads)}, row("00 09 05 01 02, 07"))
			checkMay(t, s, slices.Concat(head, slices.Repeat(row(q.b), threads), row("00")))
			for no := range threads {
				// One thread alone has them, the first one, a later one, the last one.
				s.All = make([][][]api.Op, threads)
				s.All[no] = q.txns
				checkMay(t, s, slices.Concat(head, make([]byte, no), row(q.b), make([]byte, threads-1-no), row("00")))
			}
		}
	}
}

// P20.1, P20.2: transactions of one operation up to eight, as one of a thread up to six.
func TestTransactions(t *testing.T) {
	one := ops("+1 r0 -2 w0 =3 x0 r0 =-128")
	b := row("040001, 010000, 0400fe, 020000, 030003, 050000, 010000, 030080")
	for txns := 0; txns <= 6; txns++ {
		for n := 1; n <= 8; n++ {
			s := example()
			s.All = [][][]api.Op{slices.Repeat([][]api.Op{one[:n]}, txns)}
			each := slices.Concat([]byte{byte(n)}, b[:3*n])
			checkMay(t, s, slices.Concat(row("01 01 00 09 05 01 02, 07"), []byte{byte(txns)}, slices.Repeat(each, txns), row("00")))
		}
	}
}

// P20.1, P20.2: each operation that may be, of each number of objects.
func TestOperations(t *testing.T) {
	for objects := 1; objects <= 8; objects++ {
		s := example()
		s.C.Objects, s.C.Records, s.First = objects, 16, make([]int64, objects)
		head := slices.Concat([]byte{byte(objects)}, row("01 00 10 05 01 02"), make([]byte, objects), row("01, 01"))
		check := func(o api.Op, b ...byte) {
			t.Helper()
			s.All = [][][]api.Op{{{o}}}
			checkMay(t, s, slices.Concat(head, b, row("00")))
		}
		for obj := range objects {
			check(api.Op{Kind: api.Read, Obj: obj}, 1, byte(obj), 0)
			check(api.Op{Kind: api.Write, Obj: obj}, 2, byte(obj), 0)
			check(api.Op{Kind: api.Release, Obj: obj}, 5, byte(obj), 0)
		}
		for arg := -128; arg <= 127; arg++ {
			check(api.Op{Kind: api.Set, Arg: int64(arg)}, 3, 0, byte((arg+256)%256))
			check(api.Op{Kind: api.Add, Arg: int64(arg)}, 4, 0, byte((arg+256)%256))
		}
	}
}

// P20.1, P20.2: no draws, one, and up to 255, each of them any byte; none are nil, or an empty list.
func TestDraws(t *testing.T) {
	for n := range 256 {
		s := example()
		for i := range n {
			s.Draws = append(s.Draws, byte(i*3+n))
		}
		checkMay(t, s, slices.Concat(row("01 01 00 09 05 01 02, 07, 00"), []byte{byte(n)}, s.Draws))
		s.Draws = []byte{byte(n)}
		checkMay(t, s, slices.Concat(row("01 01 00 09 05 01 02, 07, 00, 01"), s.Draws))
	}
	s := example()
	s.Draws = []byte{}
	checkMay(t, s, row("01 01 00 09 05 01 02, 07, 00, 00"))
}

// P20.1, P20.2: no picks, one, and many, each of them any byte, whether there is such a thread or not; none are nil, or an empty list.
func TestPicks(t *testing.T) {
	head := row("01 01 00 09 05 01 02, 07, 00, 00")
	for p := range 256 {
		s := example()
		s.Picks = []int{p}
		checkMay(t, s, append(slices.Clone(head), byte(p)))
		s.Picks = []int{0, p, 255, p}
		checkMay(t, s, append(slices.Clone(head), 0, byte(p), 255, byte(p)))
	}
	s := example()
	s.Picks = []int{}
	checkMay(t, s, head)
	for _, n := range []int{2, 9, 255, 256, 257, 4096, 100_000} {
		s.Picks = nil
		b := slices.Clone(head)
		for i := range n {
			s.Picks, b = append(s.Picks, i%251), append(b, byte(i%251))
		}
		checkMay(t, s, b)
	}
}

// P20.1, P20.2: as much of all as there may be: 7 bytes, 8 first values, 6 threads with a count, 6 transactions each, of a count and 24 bytes, a count and 255 draws, 1,000 picks.
func TestGreatest(t *testing.T) {
	s := greatest()
	b, e := script.Put(s)
	if e != api.OK || len(b) != 7+8+6*(1+6*25)+256+1000 {
		t.Fatalf("%d bytes, error %d", len(b), e)
	}
	checkMay(t, s, b)
	for at, want := range map[int]byte{
		0: 8, 1: 6, 2: 0x10, 3: 0, 4: 255, 5: 4, 6: 64, 7: 0x80, 14: 64, 15: 6, 16: 8, 17: api.Read, 40: 0, 41: 8, 166: 6,
		15 + 906: 255, 15 + 907: 255, 15 + 907 + 254: 1, 15 + 907 + 255: 0, 15 + 907 + 256: 7,
	} {
		if b[at] != want {
			t.Errorf("the byte %d: %d, not %d", at, b[at], want)
		}
	}
	checkMay(t, empty(), row("08 06 00 10 00 03 01, 00 00 00 00 00 00 00 00, 00 00 00 00 00 00, 00"))
}
