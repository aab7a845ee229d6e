package crowd_test

import (
	"math"
	"reflect"
	"slices"
	"testing"

	"quarrel/api"
	"quarrel/crowd"
	"quarrel/lang"
)

// clone shares nothing with what it is of.
func clone(l laid) laid {
	l.first, l.draws, l.all = slices.Clone(l.first), slices.Clone(l.draws), slices.Clone(l.all)
	for i := range l.all {
		l.all[i] = slices.Clone(l.all[i])
		for j := range l.all[i] {
			l.all[i][j] = slices.Clone(l.all[i][j])
		}
	}
	return l
}

// refused asks that there can't be such a crowd, and that what was handed in is as it was.
func (l laid) refused(t *testing.T, want api.Errno) {
	t.Helper()
	was := clone(l)
	c, e := crowd.New(l.c, l.first, l.draws, l.all)
	if c != nil || e != want {
		t.Errorf("New of %+v: %v, error %d, not %d", l, c != nil, e, want)
	}
	if !reflect.DeepEqual(l, was) {
		t.Errorf("handed in, and changed: %+v, not %+v", l, was)
	}
	nothing(t, c)
}

// nothing asks of a nil crowd that each call tells that there is nothing.
func nothing(t *testing.T, c *crowd.Crowd) {
	t.Helper()
	for _, n := range numbers() {
		if c.Pick(n) || c.Run(n) != 0 || c.Rounds(n) != 0 || c.Thread(n) != nil {
			t.Errorf("of a nil crowd %d is something", n)
		}
	}
	if c.Run() != 0 || c.Run(numbers()...) != 0 || len(c.Unfinished()) != 0 || c.Floor() != nil || c.Steps() != 0 || c.Commits() != 0 {
		t.Error("of a nil crowd there is something")
	}
}

// P16.3: of a nil crowd each call tells that there is nothing.
func TestNilCrowd(t *testing.T) {
	var c *crowd.Crowd
	for range 2 {
		nothing(t, c)
	}
	if c.Rounds(100_000) != 0 || c.Rounds(100_001) != 0 {
		t.Error("rounds of a nil crowd make steps")
	}
}

// fine is what there may be a crowd of: two threads, with a transaction each.
func fine() laid { return by(api.Polite, "r0 +1 w0", "r1 w0") }

// sick are what a config may not be, by changes of one that may be.
func sick() []func(*api.Config) {
	var l []func(*api.Config)
	for _, n := range append(numbers(), api.MaxWait, api.MaxWait+1, api.MaxTickets, api.MaxRecords+1) {
		for _, q := range []struct {
			of          func(*api.Config) *int
			least, most int
		}{
			{func(c *api.Config) *int { return &c.Objects }, 1, 8},
			{func(c *api.Config) *int { return &c.Threads }, 1, 6},
			{func(c *api.Config) *int { return &c.Records }, 1, 4096},
			{func(c *api.Config) *int { return &c.Tickets }, 0, 255},
			{func(c *api.Config) *int { return &c.Manager }, 1, 4},
			{func(c *api.Config) *int { return &c.Wait }, 1, 64},
		} {
			if n < q.least || n > q.most {
				l = append(l, func(c *api.Config) { *q.of(c) = n })
			}
		}
	}
	return append(l, func(c *api.Config) { *c = api.Config{} })
}

// P16.1: a config that may not be, whatever else is right or wrong.
func TestConfig(t *testing.T) {
	for _, change := range sick() {
		for _, worse := range []func(*laid){
			func(l *laid) {},
			func(l *laid) { l.first = nil },
			func(l *laid) { l.first = []int64{5, 6, 7} },
			func(l *laid) { l.all = nil },
			func(l *laid) { l.all[1] = lists("r2")[0] },
			func(l *laid) { *l = laid{c: l.c} },
		} {
			l := fine()
			worse(&l)
			change(&l.c)
			l.refused(t, api.ErrRange)
		}
	}
}

// P16.1: config's ends, which may be.
func TestConfigsThatMayBe(t *testing.T) {
	for _, l := range []laid{
		{c: api.Config{Objects: 1, Threads: 1, Records: 2, Tickets: 0, Manager: 1, Wait: 1}, first: make([]int64, 1), all: lists("w0")},
		{c: api.Config{Objects: 8, Threads: 6, Records: 4096, Tickets: 255, Manager: 4, Wait: 64}, first: make([]int64, 8), draws: make([]byte, 300), all: lists("w7", "w6", "w5", "w4", "w3", "w2")},
		{c: api.Config{Objects: 8, Threads: 1, Records: 16, Tickets: 0, Manager: 2, Wait: 64}, first: []int64{math.MinInt64, math.MaxInt64, 0, -1, 1, 128, -129, 1 << 32}, all: lists("")},
	} {
		s := l.crowd(t)
		s.values(l.first...)
		if s.Floor().Config() != l.c {
			t.Errorf("Config: %+v, not %+v", s.Floor().Config(), l.c)
		}
	}
}

// P16.1: fewer and more first values than objects, and no room for them: the floor's errors come ahead of those of the lists and of the threads.
func TestFirstValues(t *testing.T) {
	wrong := [][][][]api.Op{nil, lists(""), lists("", "", ""), lists("r2", ""), lists("r0", "r2"), {make([][]api.Op, 7), nil}, fine().all}
	for _, all := range wrong {
		for n := range 10 {
			l := fine()
			l.first, l.all = make([]int64, n), all
			if n == 2 {
				continue
			}
			l.refused(t, api.ErrForm)
			// ErrForm comes ahead of ErrFull, too.
			l.c.Records = 1
			l.refused(t, api.ErrForm)
		}
		for records := 1; records <= 3; records++ {
			l := fine()
			l.c.Records, l.all = records, all
			l.refused(t, api.ErrFull)
		}
	}
	l := fine()
	l.c.Records = 4
	l.crowd(t)
}

// P16.1: as many lists as threads, and no fewer or more, of each number of threads; lists may be nil or empty.
func TestHowManyLists(t *testing.T) {
	for threads := 1; threads <= api.MaxThreads; threads++ {
		for n := range 10 {
			for _, list := range [][][]api.Op{nil, {}, lists("r0")[0], lists("r0/=5 w1/x0")[0]} {
				l := fine()
				l.c.Threads, l.all = threads, slices.Repeat([][][]api.Op{list}, n)
				if n != threads {
					l.refused(t, api.ErrForm)
					continue
				}
				s := l.crowd(t)
				s.at(0, 0, s.Unfinished()...)
				if got := len(s.Unfinished()); got != 0 && len(list) == 0 || got != threads && len(list) > 0 {
					t.Errorf("%d threads with %v: %d unfinished", threads, list, got)
				}
			}
		}
		l := fine()
		l.c.Threads, l.all = threads, make([][][]api.Op, 4096)
		l.refused(t, api.ErrForm)
	}
}

// none are lists that are no transaction of two objects.
func none() [][]api.Op {
	l := [][]api.Op{
		nil, {}, ops("r2"), ops("w2"), ops("x2"), ops("r0 w1 r2"), ops("=128"), ops("=-129"), ops("+128"), ops("-129"),
		{{}}, {{Kind: 6}}, {{Kind: -1}}, {{Kind: api.Read, Obj: -1}}, {{Kind: api.Read, Arg: 1}}, {{Kind: api.Set, Obj: 1}},
		ops("r0 r0 r0 r0 r0 r0 r0 r0 r0"), append(ops("r0"), api.Op{}),
	}
	for _, n := range numbers() {
		if n < 0 || n > 5 {
			l = append(l, []api.Op{{Kind: n}}, []api.Op{{Kind: api.Write, Obj: n}}, []api.Op{{Kind: api.Release, Obj: n}})
		}
		if n < -128 || n > 127 {
			l = append(l, []api.Op{{Kind: api.Set, Arg: int64(n)}}, []api.Op{{Kind: api.Add, Arg: int64(n)}})
		}
	}
	return l
}

// P16.1: a list that is no transaction, of the first thread, of a later one, of several, at the first place and at a later one.
func TestNoTransaction(t *testing.T) {
	for threads := 1; threads <= api.MaxThreads; threads++ {
		for _, bad := range none() {
			for no := range threads {
				for at := range 3 {
					l := by(api.Karma, slices.Repeat([]string{"r0/w1/=3"}, threads)...)
					l.all[no][at] = bad
					l.refused(t, api.ErrForm)
					l.all[threads-1][0] = bad
					l.refused(t, api.ErrForm)
				}
			}
		}
	}
	// Objects are those of the config: what is a transaction of eight is none of two.
	l := by(api.Stamp, "r7", "w0 x7")
	l.refused(t, api.ErrForm)
	l.c.Objects, l.first = 8, make([]int64, 8)
	l.crowd(t)
}

// P16.1: six transactions are a thread's, seven and more aren't, of the first thread, of a later one, of several.
func TestTooManyTransactions(t *testing.T) {
	for threads := 1; threads <= api.MaxThreads; threads++ {
		for no := range threads {
			l := by(api.Greedy, make([]string, threads)...)
			for n := range 7 {
				l.all[no] = slices.Repeat([][]api.Op{ops("r0 +1 w0")}, n)
				l.crowd(t)
			}
			for _, n := range []int{7, 8, 12, 255, 256, 262, 4096} {
				l.all[no] = slices.Repeat([][]api.Op{ops("r0 +1 w0")}, n)
				l.refused(t, api.ErrForm)
			}
			l.all[threads-1] = make([][]api.Op, 7)
			l.refused(t, api.ErrForm)
		}
	}
}

// P16.1: of several errors the first one that the chapters name: ErrRange, ErrForm of the first values, ErrFull, ErrForm of the lists, ErrForm of a thread.
func TestFirstError(t *testing.T) {
	for bits := range 32 {
		l, want := fine(), api.OK
		for i, wrong := range []struct {
			do func(*laid)
			e  api.Errno
		}{
			{func(l *laid) { l.all[0] = lists("r2")[0] }, api.ErrForm},
			{func(l *laid) { l.all = append(l.all, nil) }, api.ErrForm},
			{func(l *laid) { l.c.Records = 3 }, api.ErrFull},
			{func(l *laid) { l.first = l.first[:1] }, api.ErrForm},
			{func(l *laid) { l.c.Wait = 65 }, api.ErrRange},
		} {
			if bits>>i&1 == 1 {
				wrong.do(&l)
				want = wrong.e
			}
		}
		if want != api.OK {
			l.refused(t, want)
		}
	}
}

// P16.1: any draws may be.
func TestDraws(t *testing.T) {
	for _, draws := range [][]byte{nil, {}, {255}, make([]byte, 255), make([]byte, 4096)} {
		l := by(api.Polite, "r0 +1 w0", "r0 +2 w0")
		l.draws = draws
		s := l.crowd(t)
		s.Rounds(1000)
		s.at(s.Steps(), 2)
		s.values(8, 6)
	}
}

// P16.1: what a crowd is made of is a floor of that config, these values and draws, on which nothing was done, and threads that made no step.
func TestNew(t *testing.T) {
	for _, manager := range managers() {
		for threads := 1; threads <= api.MaxThreads; threads++ {
			words := []string{"r0 +1 w0", "", "=7 w0/x0/r1 w1", "w1", "", "x1/=1"}[:threads]
			l := by(manager, words...)
			s := l.crowd(t)
			f, plain := l.floor(t)
			if got, want := told(s.Floor(), s.threads()), told(f, plain); got != want {
				t.Errorf("New:\n%s\nnot\n%s", got, want)
			}
			var unfinished []int
			for no, w := range words {
				if w != "" {
					unfinished = append(unfinished, no)
				}
			}
			s.at(0, 0, unfinished...)
			s.beats(make([]int, threads)...)
			if len(s.Floor().Trace()) != 0 || s.Floor().Tickets().Taken() != 0 || s.Floor().Arena().Len() != 4 || s.Floor().Gate().See().Some {
				t.Error("a crowd that made no step did something")
			}
			for no := range threads {
				for i := range 2 * len(l.draws) {
					if n := s.Floor().Draw(no); n != int(l.draws[i%len(l.draws)]) {
						t.Errorf("the draw %d of the thread %d: %d", i, no, n)
					}
				}
			}
		}
	}
}

// roomy is what it is of, each list with spare room behind it, in which something stands.
func roomy(l laid) laid {
	l = clone(l)
	l.first = append(l.first, 77, 78)[:len(l.first)]
	l.draws = append(l.draws, 79, 80)[:len(l.draws)]
	for i, txns := range l.all {
		for j, t := range txns {
			txns[j] = append(t, ops("=81 w1")...)[:len(t)]
		}
		l.all[i] = append(txns, ops("=82 w1"))[:len(txns)]
	}
	l.all = append(l.all, lists("=83 w1")...)[:len(l.all)]
	return l
}

// whole is what it is of, with its spare room.
func whole(l laid) laid {
	l.first, l.draws = l.first[:cap(l.first)], l.draws[:cap(l.draws)]
	all := slices.Clone(l.all[:cap(l.all)])
	for i := range all {
		all[i] = slices.Clone(all[i][:cap(all[i])])
		for j := range all[i] {
			all[i][j] = all[i][j][:cap(all[i][j])]
		}
	}
	l.all = all
	return l
}

// spoil changes all that it is of, and its spare room.
func spoil(l laid) {
	all := whole(l)
	for i := range all.first {
		all.first[i] = -1000
	}
	for i := range all.draws {
		all.draws[i] = 255
	}
	for _, txns := range all.all {
		for _, t := range txns {
			for i := range t {
				t[i] = api.Op{Kind: api.Write, Obj: 1}
			}
		}
	}
	for _, txns := range l.all[:cap(l.all)] {
		txns = txns[:cap(txns)]
		for j := range txns {
			txns[j] = nil
		}
	}
	clear(l.all[:cap(l.all)])
}

// P16.1: what was handed in is as it was, its spare room too, and isn't kept: what becomes of it, behind any pick, plays no part.
func TestHandedIn(t *testing.T) {
	for _, manager := range managers() {
		l := by(manager, "r0 +1 w0/r1 w0", "=9 w1 r0 w0/=4 w0", "r0 r1 x0 w1")
		other := l.crowd(t)
		for at := range 60 {
			in := roomy(l)
			was := clone(whole(in))
			s := in.crowd(t)
			picks := slices.Repeat([]int{0, 1, 1, 2}, at)[:at]
			picksWere := slices.Clone(picks[:cap(picks)])
			s.Run(picks...)
			if !reflect.DeepEqual(clone(whole(in)), was) || !slices.Equal(picks[:cap(picks)], picksWere) {
				t.Fatalf("handed in, and changed: %+v, not %+v", whole(in), was)
			}
			spoil(in)
			for i := range picks {
				picks[i] = 2
			}
			s.end()
			if s.Commits() != 5 {
				t.Errorf("%d commits", s.Commits())
			}
			if at == 0 {
				other.end()
				s.same(other.told(), "at the end")
			}
			if l := whole(in); slices.ContainsFunc(l.first, func(n int64) bool { return n != -1000 }) || slices.ContainsFunc(l.draws, func(n byte) bool { return n != 255 }) || slices.ContainsFunc(l.all, func(l [][]api.Op) bool { return l != nil }) {
				t.Errorf("handed in, and changed: %+v", l)
			}
		}
	}
}

// P16.1: one list may be handed in for several threads, and as several transactions; one crowd has nothing to do with another one of the same lists.
func TestHandedInTwice(t *testing.T) {
	l := by(api.Karma, "", "", "")
	txn := ops("r0 +1 w0")
	list := [][]api.Op{txn, txn}
	l.all = [][][]api.Op{list, list, list}
	s, other := l.crowd(t), l.crowd(t)
	s.Run(slices.Repeat([]int{2, 0, 1}, 20)...)
	other.at(0, 0, 0, 1, 2)
	other.values(5, 6)
	s.Rounds(1000)
	s.at(s.Steps(), 6)
	s.values(11, 6)
	other.same(l.crowd(t).told(), "another crowd")
	other.alone(1, 1000)
	other.values(7, 6)
	s.values(11, 6)
}

// P16.1: what no crowd may be made of is nothing of lang's either: the lists are told apart by layer 11.
func TestRightOnes(t *testing.T) {
	for _, l := range append(none(), ops("r0"), ops("w1"), ops("=127"), ops("-128"), ops("r0 r1 w0 w1 x0 x1 =5 +5")) {
		in := by(api.Polite, "", "")
		in.all[1] = [][]api.Op{l}
		c, e := crowd.New(in.c, in.first, in.draws, in.all)
		if right := lang.Right(l, 2); right != (e == api.OK) || right != (c != nil) {
			t.Errorf("New of %v: error %d, but Right: %v", l, e, right)
		}
	}
}
