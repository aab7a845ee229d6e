package crowd_test

import (
	"fmt"
	"math"
	"slices"
	"strconv"
	"strings"
	"testing"

	"quarrel/api"
	"quarrel/crowd"
	"quarrel/floor"
	"quarrel/lang"
	"quarrel/thread"
)

// managers are all that there are.
func managers() []int { return []int{api.Polite, api.Karma, api.Stamp, api.Greedy} }

// numbers are ordinary ones, and the ends of what an int can be.
func numbers() []int {
	return []int{0, 1, 2, 3, 4, 5, 6, 7, 8, 255, 256, 4096, math.MaxInt32, 1 << 32, 1<<32 + 1, math.MaxInt - 1, math.MaxInt, -1, -2, -6, -255, math.MinInt32, -1 << 32, -1<<32 + 1, math.MinInt + 1, math.MinInt}
}

// ops are operations by their words: r0 w0 x0 read, write and release, =5 sets, +5 and -5 add.
func ops(words string) []api.Op {
	var l []api.Op
	for _, w := range strings.Fields(words) {
		n, err := strconv.Atoi(w[1:])
		if err != nil {
			panic(w)
		}
		l = append(l, map[byte]api.Op{
			'r': {Kind: api.Read, Obj: n}, 'w': {Kind: api.Write, Obj: n}, 'x': {Kind: api.Release, Obj: n},
			'=': {Kind: api.Set, Arg: int64(n)}, '+': {Kind: api.Add, Arg: int64(n)}, '-': {Kind: api.Add, Arg: int64(-n)},
		}[w[0]])
	}
	return l
}

// lists are threads' transactions: those of one thread are a text, one behind the other, with a stroke between.
func lists(threads ...string) [][][]api.Op {
	var all [][][]api.Op
	for _, words := range threads {
		var txns [][]api.Op
		if words != "" {
			for w := range strings.SplitSeq(words, "/") {
				txns = append(txns, ops(w))
			}
		}
		all = append(all, txns)
	}
	return all
}

// laid is what a crowd is made of.
type laid struct {
	c     api.Config
	first []int64
	draws []byte
	all   [][][]api.Op
}

// by is what a crowd is made of by a manager, of two objects, 5 and 6, with room and tickets enough.
func by(manager int, threads ...string) laid {
	return laid{
		c:     api.Config{Objects: 2, Threads: len(threads), Records: 900, Tickets: 40, Manager: manager, Wait: 4},
		first: []int64{5, 6},
		draws: []byte{3, 0, 7},
		all:   lists(threads...),
	}
}

// scene is a crowd, which a test looks at from outside.
type scene struct {
	*crowd.Crowd
	t *testing.T
}

// crowd is one that there must be.
func (l laid) crowd(t *testing.T) scene {
	t.Helper()
	c, e := crowd.New(l.c, l.first, l.draws, l.all)
	if c == nil || e != api.OK {
		t.Fatalf("New of %+v: %v, error %d", l, c != nil, e)
	}
	return scene{c, t}
}

// floor is one of its own, and the threads on it, which no crowd has.
func (l laid) floor(t *testing.T) (*floor.Floor, []*thread.Thread) {
	t.Helper()
	f, e := floor.New(l.c, l.first, l.draws)
	if e != api.OK {
		t.Fatalf("a floor: error %d", e)
	}
	var threads []*thread.Thread
	for no, txns := range l.all {
		a, e := thread.New(f, no, txns)
		if e != api.OK {
			t.Fatalf("a thread: error %d", e)
		}
		threads = append(threads, a)
	}
	return f, threads
}

// told is all that can be seen of a floor and its threads, in words.
func told(f *floor.Floor, threads []*thread.Thread) string {
	var b strings.Builder
	for at := range f.Arena().Len() {
		r, _ := f.Arena().At(at)
		fmt.Fprintln(&b, "record", at, r, f.Table().Status(at), f.Table().Priority(at), f.Table().Waiting(at))
	}
	for obj := range f.Cells().Objects() {
		at, _ := f.Cells().Load(obj)
		fmt.Fprintln(&b, "cell", obj, at)
	}
	for no := range f.Config().Threads {
		fmt.Fprintln(&b, "pulse", no, f.Gate().Pulse(no))
	}
	for no, a := range threads {
		fmt.Fprintln(&b, "thread", no, a.Steps(), a.Txn(), a.Try(), a.Commits(), a.Done())
	}
	fmt.Fprintln(&b, "config", f.Config(), "tickets", f.Tickets().Taken(), "senior", f.Gate().See(), "values", f.Values())
	for i, e := range f.Trace() {
		fmt.Fprintln(&b, "event", i, e)
	}
	return b.String()
}

// threads are all that it has, one by one.
func (s scene) threads() []*thread.Thread {
	var l []*thread.Thread
	for no := range s.Floor().Config().Threads {
		l = append(l, s.Thread(no))
	}
	return l
}

// told is all that can be seen of a crowd, in words.
func (s scene) told() string {
	return told(s.Floor(), s.threads()) + fmt.Sprintln("unfinished", s.Unfinished(), "steps", s.Steps(), "commits", s.Commits())
}

// same asks for all that can be seen of a crowd.
func (s scene) same(want, where string) {
	s.t.Helper()
	if got := s.told(); got != want {
		s.t.Fatalf("%s: the crowd is\n%s\nnot\n%s", where, got, want)
	}
}

// at asks for what a crowd tells of itself.
func (s scene) at(steps, commits int, unfinished ...int) {
	s.t.Helper()
	if s.Steps() != steps || s.Commits() != commits || !slices.Equal(s.Unfinished(), unfinished) {
		s.t.Errorf("Steps: %d, Commits: %d, Unfinished: %v, not %d, %d, %v", s.Steps(), s.Commits(), s.Unfinished(), steps, commits, unfinished)
	}
}

// values asks for the objects' values.
func (s scene) values(want ...int64) {
	s.t.Helper()
	if l := s.Floor().Values(); !slices.Equal(l, want) {
		s.t.Errorf("Values: %v, not %v", l, want)
	}
}

// pulses are those of all threads.
func (s scene) pulses() []int {
	var l []int
	for no := range s.Floor().Config().Threads {
		l = append(l, s.Floor().Gate().Pulse(no))
	}
	return l
}

// beats asks for the pulses of all threads.
func (s scene) beats(want ...int) {
	s.t.Helper()
	if l := s.pulses(); !slices.Equal(l, want) {
		s.t.Errorf("pulses: %v, not %v", l, want)
	}
}

// made asks for how many steps were made.
func (s scene) made(n, want int) {
	s.t.Helper()
	if n != want {
		s.t.Errorf("%d steps were made, not %d", n, want)
	}
}

// alone picks one thread till it is done, which it must be within so many picks, and tells how many steps it made.
func (s scene) alone(no, most int) int {
	s.t.Helper()
	n := 0
	for s.Pick(no) {
		if n++; n > most {
			s.t.Fatalf("%+v: the thread %d, picked alone, isn't done within %d steps", s.Floor().Config(), no, most)
		}
	}
	if slices.Contains(s.Unfinished(), no) || !s.Thread(no).Done() {
		s.t.Fatalf("%+v: the thread %d makes no step, but isn't done", s.Floor().Config(), no)
	}
	return n
}

// end lets all threads make steps in turn, and then each alone till it is done: in turn they may get into each other's way for as long as there is room.
func (s scene) end() {
	s.t.Helper()
	s.Rounds(20)
	for no := range s.Floor().Config().Threads {
		s.alone(no, 100_000)
	}
	s.over()
}

// over asks of a crowd whose threads are all done that nothing makes a step any more.
func (s scene) over() {
	s.t.Helper()
	if l := s.Unfinished(); len(l) != 0 {
		s.t.Fatalf("Unfinished: %v", l)
	}
	before := s.told()
	for _, n := range numbers() {
		if s.Pick(n) {
			s.t.Errorf("all are done, but Pick(%d) makes a step", n)
		}
		s.made(s.Rounds(n), 0)
	}
	s.made(s.Run(numbers()...), 0)
	s.same(before, "all are done")
}

// inOrder asks that the values are what the transactions that committed make of the first ones, one behind the other; none of them may release what it read.
func (s scene) inOrder(l laid) {
	s.t.Helper()
	values := l.first
	for _, e := range s.Floor().Trace() {
		if e.Kind == api.EvCommit {
			next, e := lang.Alone(l.all[e.Thread][e.Txn], values)
			if e != api.OK {
				s.t.Fatalf("Alone: error %d", e)
			}
			values = next
		}
	}
	s.values(values...)
}
