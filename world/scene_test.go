package world_test

import (
	"encoding/hex"
	"fmt"
	"math"
	"slices"
	"strconv"
	"strings"
	"testing"

	"quarrel/api"
	"quarrel/crowd"
	"quarrel/script"
	"quarrel/world"
)

// managers are all that there are.
func managers() []int { return []int{api.Polite, api.Karma, api.Stamp, api.Greedy} }

// numbers are ordinary ones, and the ends of what an int can be.
func numbers() []int {
	return []int{0, 1, 2, 3, 4, 5, 6, 7, 8, 255, 256, 257, 4096, math.MaxInt32, 1 << 32, 1<<32 + 1, math.MaxInt - 1, math.MaxInt, -1, -2, -6, -255, math.MinInt32, -1 << 32, -1<<32 + 1, math.MinInt + 1, math.MinInt}
}

// ops are operations by their words: r0 w0 x0 read, write and release, =5 sets, +5 and -5 add.
func ops(words string) []api.Op {
	var l []api.Op
	for _, w := range strings.Fields(words) {
		n, err := strconv.Atoi(w[1:])
		if err != nil {
			panic(w)
		}
		l = append(l, map[byte]api.Op{
			'r': {Kind: api.Read, Obj: n}, 'w': {Kind: api.Write, Obj: n}, 'x': {Kind: api.Release, Obj: n},
			'=': {Kind: api.Set, Arg: int64(n)}, '+': {Kind: api.Add, Arg: int64(n)}, '-': {Kind: api.Add, Arg: int64(-n)},
		}[w[0]])
	}
	return l
}

// lists are threads' transactions: those of one thread are a text, one behind the other, with a stroke between.
func lists(threads ...string) [][][]api.Op {
	var all [][][]api.Op
	for _, words := range threads {
		var txns [][]api.Op
		if words != "" {
			for w := range strings.SplitSeq(words, "/") {
				txns = append(txns, ops(w))
			}
		}
		all = append(all, txns)
	}
	return all
}

// row are bytes by their hexadecimal digits; blanks and commas between them are for the eye.
func row(text string) []byte {
	b, err := hex.DecodeString(strings.NewReplacer(" ", "", ",", "").Replace(text))
	if err != nil {
		panic(text)
	}
	return b
}

// picks are those of a text, a digit each.
func picks(text string) []int {
	var l []int
	for _, r := range text {
		l = append(l, int(r-'0'))
	}
	return l
}

// by is a script by a manager, of two objects, 5 and 6, with room and tickets enough.
func by(manager int, picks []int, threads ...string) script.Script {
	return script.Script{
		C:     api.Config{Objects: 2, Threads: len(threads), Records: 900, Tickets: 40, Manager: manager, Wait: 4},
		First: []int64{5, 6},
		Draws: []byte{3, 0, 7},
		All:   lists(threads...),
		Picks: picks,
	}
}

// example is the chapter's: one thread adds 1 to the object 0, first 5; it is picked nine times, and two more.
func example() []byte {
	return row("01 01 00 40 09 01 04, 05, 01 03 010000 040001 020000, 00, 00 00 00 00 00 00 00 00 00, 00 00")
}

// several are scripts of many kinds, by each manager: threads that share objects or don't, without transactions, without tickets or room, without picks, with one, with those of threads that are done or that there aren't.
func several() []script.Script {
	var l []script.Script
	for _, m := range managers() {
		none := by(m, nil, "r0 +1 w0", "r1 x1 w0")
		one := by(m, []int{1}, "=3 w1", "r0 +1 w0/r1 +1 w1")
		turns := by(m, slices.Repeat([]int{0, 1, 2}, 30), "r0 +1 w0/=4 w1", "", "r0 r1 w0 w1")
		wild := by(m, picks("0011022013122102213011002201102233011220100221102011220011220122102001122001122110022110022"), "r0 +1 w0/r1 +1 w1", "r1 -2 w1/r0 w1", "r0 r1 x0 w1")
		done := by(m, slices.Repeat([]int{0}, 60), "=9 w0/r0 +1 w0", "r0 w1")
		nobody := by(m, []int{2, 255, 0, 7, 0, 128, 1, 2, 0, 0, 3}, "r0 +1 w0", "=5 w1")
		tickets := by(m, slices.Repeat([]int{1, 0}, 40), "=1 w0/=2 w0/=3 w0", "r0 w1/r1 w1")
		tickets.C.Tickets = 3
		room := by(m, slices.Repeat([]int{0, 1, 1}, 30), "=1 w0/=2 w0/=3 w0", "r0 w1/r1 w1/+3 w0 w1")
		room.C.Records = 13
		empty := by(m, []int{0, 1, 0}, "", "")
		empty.Draws = nil
		l = append(l, none, one, turns, wild, done, nobody, tickets, room, empty)
	}
	return l
}

// put are a script's bytes.
func put(t *testing.T, s script.Script) []byte {
	t.Helper()
	b, e := script.Put(s)
	if e != api.OK {
		t.Fatalf("Put of %+v: error %d", s, e)
	}
	return b
}

// scene is a world, which a test looks at from outside.
type scene struct {
	*world.World
	t *testing.T
}

// open is the world of bytes, which there must be.
func open(t *testing.T, b []byte) scene {
	t.Helper()
	w, at, e := world.Open(b)
	if w == nil || at != -1 || e != api.OK {
		t.Fatalf("Open of % x: %v, place %d, error %d", b, w != nil, at, e)
	}
	return scene{w, t}
}

// opened is the world of a script.
func opened(t *testing.T, s script.Script) scene {
	t.Helper()
	return open(t, put(t, s))
}

// plain is a script's crowd, which no world has.
func plain(t *testing.T, s script.Script) *crowd.Crowd {
	t.Helper()
	c, e := crowd.New(s.C, s.First, s.Draws, s.All)
	if e != api.OK {
		t.Fatalf("a crowd of %+v: error %d", s, e)
	}
	return c
}

// told is all that can be seen of a crowd, in words.
func told(c *crowd.Crowd) string {
	var b strings.Builder
	f := c.Floor()
	for at := range f.Arena().Len() {
		r, _ := f.Arena().At(at)
		fmt.Fprintln(&b, "record", at, r, f.Table().Status(at), f.Table().Priority(at), f.Table().Waiting(at))
	}
	for obj := range f.Cells().Objects() {
		at, _ := f.Cells().Load(obj)
		fmt.Fprintln(&b, "cell", obj, at)
	}
	for no := range f.Config().Threads {
		a := c.Thread(no)
		fmt.Fprintln(&b, "thread", no, f.Gate().Pulse(no), a.Steps(), a.Txn(), a.Try(), a.Commits(), a.Done())
	}
	fmt.Fprintln(&b, "config", f.Config(), "tickets", f.Tickets().Taken(), "senior", f.Gate().See(), "values", f.Values())
	fmt.Fprintln(&b, "unfinished", c.Unfinished(), "steps", c.Steps(), "commits", c.Commits())
	for i, e := range f.Trace() {
		fmt.Fprintln(&b, "event", i, e)
	}
	return b.String()
}

// told is all that can be seen of a world, in words.
func (s scene) told() string {
	return fmt.Sprintln("picked", s.Picked(), "left", s.Left(), "values", s.Values(), "trace", s.Trace(), "script", s.Script()) + told(s.Crowd())
}

// same asks for all that can be seen of a world.
func (s scene) same(want, where string) {
	s.t.Helper()
	if got := s.told(); got != want {
		s.t.Fatalf("%s: the world is\n%s\nnot\n%s", where, got, want)
	}
}

// at asks for how many picks came, and how many are left.
func (s scene) at(picked, left int) {
	s.t.Helper()
	if s.Picked() != picked || s.Left() != left {
		s.t.Errorf("Picked: %d, Left: %d, not %d, %d", s.Picked(), s.Left(), picked, left)
	}
}

// is asks for what became of its crowd: what became of a plain one.
func (s scene) is(c *crowd.Crowd, where string) {
	s.t.Helper()
	if got, want := told(s.Crowd()), told(c); got != want {
		s.t.Fatalf("%s: the crowd is\n%s\nnot\n%s", where, got, want)
	}
	if !slices.Equal(s.Values(), c.Floor().Values()) || !slices.Equal(s.Trace(), c.Floor().Trace()) {
		s.t.Fatalf("%s: Values: %v, Trace: %v, not %v, %v", where, s.Values(), s.Trace(), c.Floor().Values(), c.Floor().Trace())
	}
}

// values asks for the objects' values.
func (s scene) values(want ...int64) {
	s.t.Helper()
	if l := s.Values(); !slices.Equal(l, want) {
		s.t.Errorf("Values: %v, not %v", l, want)
	}
}

// comes asks that so many picks come.
func (s scene) comes(n, want int) {
	s.t.Helper()
	if got := s.Run(n); got != want {
		s.t.Errorf("Run(%d): %d, not %d", n, got, want)
	}
}

// made asks for how many steps were made.
func (s scene) made(n, want int) {
	s.t.Helper()
	if n != want {
		s.t.Errorf("%d steps were made, not %d", n, want)
	}
}

// goesAlone picks a plain crowd's thread till it is done, and tells how many steps it made.
func goesAlone(c *crowd.Crowd, no int) int {
	made := 0
	for slices.Contains(c.Unfinished(), no) {
		c.Pick(no)
		made++
	}
	return made
}

// goesTxns picks a plain crowd's thread till so many of its transactions, one by one, ended, and tells how many steps it made.
func goesTxns(c *crowd.Crowd, no, n int) int {
	made := 0
	for range min(n, 2*api.MaxTxns) {
		for t := c.Thread(no).Txn(); c.Thread(no).Txn() == t && slices.Contains(c.Unfinished(), no); made++ {
			c.Pick(no)
		}
	}
	return made
}

// clone shares nothing with what it is of.
func clone(s script.Script) script.Script {
	s.First, s.Draws, s.Picks, s.All = slices.Clone(s.First), slices.Clone(s.Draws), slices.Clone(s.Picks), slices.Clone(s.All)
	for i, txns := range s.All {
		s.All[i] = slices.Clone(txns)
		for j, l := range txns {
			s.All[i][j] = slices.Clone(l)
		}
	}
	return s
}

// alike says whether two scripts are the same; nil and empty lists are one.
func alike(a, b script.Script) bool {
	sameTxns := func(x, y [][]api.Op) bool { return slices.EqualFunc(x, y, slices.Equal[[]api.Op]) }
	return a.C == b.C && slices.Equal(a.First, b.First) && slices.Equal(a.Draws, b.Draws) &&
		slices.EqualFunc(a.All, b.All, sameTxns) && slices.Equal(a.Picks, b.Picks)
}
