package script_test

import (
	"slices"
	"testing"

	"quarrel/api"
	"quarrel/script"
)

// fields are a config's, with the least and the greatest number that each may be.
func fields() []struct {
	of          func(*api.Config) *int
	least, most int
} {
	return []struct {
		of          func(*api.Config) *int
		least, most int
	}{
		{func(c *api.Config) *int { return &c.Objects }, 1, 8},
		{func(c *api.Config) *int { return &c.Threads }, 1, 6},
		{func(c *api.Config) *int { return &c.Records }, 1, 4096},
		{func(c *api.Config) *int { return &c.Tickets }, 0, 255},
		{func(c *api.Config) *int { return &c.Manager }, 1, 4},
		{func(c *api.Config) *int { return &c.Wait }, 1, 64},
	}
}

// P20.1: a config that may not be, by each field, on its own and together with as many values and lists as it asks for.
func TestConfigThatMayNot(t *testing.T) {
	checkMayNot(t, script.Script{})
	for _, base := range several() {
		for _, f := range fields() {
			for _, n := range append(numbers(), f.least-1, f.most+1, f.least+256, f.most+256) {
				if n >= f.least && n <= f.most {
					continue
				}
				s := clone(base)
				*f.of(&s.C) = n
				checkMayNot(t, s)
				if s.C.Objects >= 0 && s.C.Objects < 1000 && s.C.Threads >= 0 && s.C.Threads < 1000 {
					s.First, s.All = make([]int64, s.C.Objects), make([][][]api.Op, s.C.Threads)
					checkMayNot(t, s)
				}
			}
		}
		s := clone(base)
		s.C = api.Config{}
		checkMayNot(t, s)
	}
}

// P20.1: too little room for the objects, by one record, and by more.
func TestRoomThatMayNot(t *testing.T) {
	for _, base := range several() {
		for records := 1; records < 2*base.C.Objects; records++ {
			s := clone(base)
			s.C.Records = records
			checkMayNot(t, s)
		}
		s := clone(base)
		s.C.Records = 2 * s.C.Objects
		if !script.Ok(s) {
			t.Errorf("Ok(%+v): false", s)
		}
	}
}

// P20.1: one first value too few, one too many, none, and very many; one that is no byte of two's complement, at each place.
func TestFirstValuesThatMayNot(t *testing.T) {
	for _, base := range several() {
		for n := range 20 {
			s := clone(base)
			s.First = slices.Repeat([]int64{1}, n)
			if n != s.C.Objects {
				checkMayNot(t, s)
			}
		}
		s := clone(base)
		s.First = make([]int64, 256+s.C.Objects)
		checkMayNot(t, s)
		s.First = []int64{}
		checkMayNot(t, s)
		for at := range base.First {
			for _, n := range append(numbers(), -130, 129, 384, -384) {
				if n < -128 || n > 127 {
					s := clone(base)
					s.First[at] = int64(n)
					checkMayNot(t, s)
				}
			}
		}
	}
}

// P20.1: one list of transactions too few, one too many, none, and very many.
func TestListsThatMayNot(t *testing.T) {
	for _, base := range several() {
		for n := range 14 {
			for _, txns := range [][][]api.Op{nil, {}, lists("r0")[0]} {
				s := clone(base)
				s.All = slices.Repeat([][][]api.Op{txns}, n)
				if n != s.C.Threads {
					checkMayNot(t, s)
				}
			}
		}
		s := clone(base)
		s.All = s.All[:len(s.All)-1]
		checkMayNot(t, s)
		s = clone(base)
		s.All = append(s.All, nil)
		checkMayNot(t, s)
		s.All = make([][][]api.Op, 256+s.C.Threads)
		checkMayNot(t, s)
	}
}

// P20.1: seven transactions and more, of the first thread, of a later one, of the last one.
func TestTransactionsThatMayNot(t *testing.T) {
	for _, base := range several() {
		for no := range base.All {
			for _, n := range []int{7, 8, 12, 255, 256, 257, 262, 4096} {
				s := clone(base)
				s.All[no] = slices.Repeat([][]api.Op{ops("r0 w0")}, n)
				checkMayNot(t, s)
			}
			s := clone(base)
			s.All[no] = make([][]api.Op, 7)
			checkMayNot(t, s)
		}
	}
}

// none are lists that are no transaction of so many objects: each of another fault.
func none(objects int) [][]api.Op {
	nine := ops("r0 +1 w0 =2 x0 r0 w0 -1 r0")
	l := [][]api.Op{
		nil, {}, nine, slices.Repeat(ops("+1"), 256), slices.Repeat(ops("+1"), 257), slices.Repeat(ops("+1"), 264),
		ops("=128"), ops("=-129"), ops("+128"), ops("-129"), ops("=256"), ops("+257"),
		{{}}, {{Kind: 6}}, {{Kind: -1}}, {{Kind: 256}}, {{Kind: 257}},
		{{Kind: api.Set, Obj: 1}}, {{Kind: api.Add, Obj: -1}}, {{Kind: api.Set, Obj: 256}},
		append(ops("r0"), api.Op{}), append([]api.Op{{}}, ops("r0")...), append(nine[:7:7], api.Op{Kind: 6}),
	}
	for _, kind := range []int{api.Read, api.Write, api.Release} {
		for _, obj := range []int{objects, objects + 1, -1, 256, 257, 1 << 32} {
			l = append(l, []api.Op{{Kind: kind, Obj: obj}}, append(ops("r0 +1"), api.Op{Kind: kind, Obj: obj}))
		}
		for _, arg := range []int64{1, -1, 256, 1 << 32} {
			l = append(l, []api.Op{{Kind: kind, Arg: arg}})
		}
	}
	return l
}

// P20.1: a transaction that may not be, of each thread, at each place.
func TestTransactionThatMayNot(t *testing.T) {
	for _, base := range several() {
		for _, l := range none(base.C.Objects) {
			for no := range base.All {
				for at := range base.All[no] {
					s := clone(base)
					s.All[no][at] = l
					checkMayNot(t, s)
				}
				s := clone(base)
				s.All[no] = [][]api.Op{l}
				checkMayNot(t, s)
			}
		}
	}
}

// P20.1: objects are those of the config: an operation on one of them may be, and not, if there is one fewer.
func TestObjectThatThereIsNot(t *testing.T) {
	for last := range 8 {
		for objects := 1; objects <= 8; objects++ {
			for _, kind := range []int{api.Read, api.Write, api.Release} {
				s := empty()
				s.C.Objects, s.First = objects, make([]int64, objects)
				s.All[5] = [][]api.Op{{{Kind: kind, Obj: last}}}
				if script.Ok(s) != (last < objects) {
					t.Errorf("Ok(%+v): %v", s, last >= objects)
				}
			}
		}
	}
}

// P20.1: 256 draws and more.
func TestDrawsThatMayNot(t *testing.T) {
	for _, base := range several() {
		for _, n := range []int{256, 257, 511, 512, 65_536} {
			s := clone(base)
			s.Draws = make([]byte, n)
			checkMayNot(t, s)
		}
	}
}

// P20.1: a pick that is no byte, at each place, and behind all others.
func TestPicksThatMayNot(t *testing.T) {
	for _, base := range []script.Script{example(), ordinary(), empty()} {
		for _, n := range numbers() {
			if n >= 0 && n <= 255 {
				continue
			}
			for at := range len(base.Picks) + 1 {
				s := clone(base)
				s.Picks = slices.Insert(s.Picks, at, n)
				checkMayNot(t, s)
			}
		}
	}
	s := greatest()
	for _, at := range []int{0, 500, 999} {
		for _, n := range []int{-1, 256} {
			l := clone(s)
			l.Picks[at] = n
			checkMayNot(t, l)
		}
	}
}
