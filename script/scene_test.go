package script_test

import (
	"bytes"
	"encoding/hex"
	"math"
	"slices"
	"strconv"
	"strings"
	"testing"

	"quarrel/api"
	"quarrel/script"
)

// numbers are ordinary ones, the edges of bytes and of limits among them, and the ends of what an int can be.
func numbers() []int {
	return []int{
		0, 1, 2, 3, 4, 5, 6, 7, 8, 9, 16, 64, 65, 127, 128, 255, 256, 257, 258, 260, 262, 264, 4096, 4097, 65_536, 65_537, 69_632,
		math.MaxInt32, 1 << 32, 1<<32 + 1, math.MaxInt - 1, math.MaxInt,
		-1, -2, -127, -128, -129, -255, -256, math.MinInt32, -1 << 32, -1<<32 + 1, math.MinInt + 1, math.MinInt,
	}
}

// managers are all that there are.
func managers() []int { return []int{api.Polite, api.Karma, api.Stamp, api.Greedy} }

// ops are operations by their words: r0 w0 x0 read, write and release, =5 sets, +5 and -5 add.
func ops(words string) []api.Op {
	var l []api.Op
	for _, w := range strings.Fields(words) {
		n, err := strconv.Atoi(w[1:])
		if err != nil {
			panic(w)
		}
		l = append(l, map[byte]api.Op{
			'r': {Kind: api.Read, Obj: n}, 'w': {Kind: api.Write, Obj: n}, 'x': {Kind: api.Release, Obj: n},
			'=': {Kind: api.Set, Arg: int64(n)}, '+': {Kind: api.Add, Arg: int64(n)}, '-': {Kind: api.Add, Arg: int64(-n)},
		}[w[0]])
	}
	return l
}

// lists are threads' transactions: those of one thread are a text, one behind the other, with a stroke between.
func lists(threads ...string) [][][]api.Op {
	var all [][][]api.Op
	for _, words := range threads {
		var txns [][]api.Op
		if words != "" {
			for w := range strings.SplitSeq(words, "/") {
				txns = append(txns, ops(w))
			}
		}
		all = append(all, txns)
	}
	return all
}

// row are bytes by their hexadecimal digits; blanks and commas between them are for the eye.
func row(text string) []byte {
	b, err := hex.DecodeString(strings.NewReplacer(" ", "", ",", "").Replace(text))
	if err != nil {
		panic(text)
	}
	return b
}

// example is the chapter's: one object 7, one thread without transactions.
func example() script.Script {
	return script.Script{
		C:     api.Config{Objects: 1, Threads: 1, Records: 9, Tickets: 5, Manager: api.Polite, Wait: 2},
		First: []int64{7},
		All:   lists(""),
	}
}

// ordinary has something in each of its parts.
func ordinary() script.Script {
	return script.Script{
		C:     api.Config{Objects: 2, Threads: 2, Records: 300, Tickets: 9, Manager: api.Karma, Wait: 4},
		First: []int64{5, -6},
		Draws: []byte{3, 0, 255},
		All:   lists("r0 +1 w0/=-5 w1", "r1 x1 -3 w0"),
		Picks: []int{0, 1, 1, 0, 255, 7},
	}
}

// ordinaryRow are its bytes: each part stands at the place that is behind it here.
func ordinaryRow() []byte {
	return slices.Concat(
		row("02 02 01 2c 09 02 04"),       // 0: the config
		row("05 fa"),                      // 7: the first values
		row("02"),                         // 9: two transactions of the thread 0
		row("03, 010000, 040001, 020000"), // 10: three operations, at 11, 14 and 17
		row("02, 0300fb, 020100"),         // 20: two, at 21 and 24
		row("01"),                         // 27: one transaction of the thread 1
		row("04, 010100, 050100, 0400fd, 020000"), // 28: four, at 29, 32, 35 and 38
		row("03, 03 00 ff"),                       // 41: three draws
		row("00 01 01 00 ff 07"),                  // 45: the picks
	)
}

// ordinaryPicks is where its picks begin.
const ordinaryPicks = 45

// greatest has as much of all as there may be, and many picks.
func greatest() script.Script {
	s := script.Script{
		C:     api.Config{Objects: 8, Threads: 6, Records: 4096, Tickets: 255, Manager: api.Greedy, Wait: 64},
		First: []int64{-128, -1, 0, 127, -127, 1, 126, 64},
	}
	for n := range 255 {
		s.Draws = append(s.Draws, byte(255-n))
	}
	for range 6 {
		s.All = append(s.All, lists("r0 w7 x6 =-128 +127 -128 =127 w1/r1 r2 r3 r4 r5 r6 r7 r0/w0 w1 w2 w3 w4 w5 w6 w7/x0 x1 x2 x3 x4 x5 x6 x7/+1 +2 +3 +4 -1 -2 -3 -4/=0 =1 =2 =3 =-1 =-2 =-3 =-4")[0])
	}
	for n := range 1000 {
		s.Picks = append(s.Picks, n*7%256)
	}
	return s
}

// empty has as many objects and threads as there may be, and nothing else.
func empty() script.Script {
	return script.Script{
		C:     api.Config{Objects: 8, Threads: 6, Records: 16, Tickets: 0, Manager: api.Stamp, Wait: 1},
		First: make([]int64, 8),
		All:   lists("", "", "", "", "", ""),
	}
}

// several are these four.
func several() []script.Script {
	return []script.Script{example(), ordinary(), greatest(), empty()}
}

// clone shares nothing with what it is of.
func clone(s script.Script) script.Script {
	s.First, s.Draws, s.Picks, s.All = slices.Clone(s.First), slices.Clone(s.Draws), slices.Clone(s.Picks), slices.Clone(s.All)
	for i, txns := range s.All {
		s.All[i] = slices.Clone(txns)
		for j, l := range txns {
			s.All[i][j] = slices.Clone(l)
		}
	}
	return s
}

// same says whether two scripts are alike; nil and empty lists are one.
func same(a, b script.Script) bool {
	sameTxns := func(x, y [][]api.Op) bool { return slices.EqualFunc(x, y, slices.Equal[[]api.Op]) }
	return a.C == b.C && slices.Equal(a.First, b.First) && bytes.Equal(a.Draws, b.Draws) &&
		slices.EqualFunc(a.All, b.All, sameTxns) && slices.Equal(a.Picks, b.Picks)
}

// checkMay asks for the bytes of a script that may be, and for the script of these; what is handed in stays as it was.
func checkMay(t *testing.T, s script.Script, want []byte) {
	t.Helper()
	was := clone(s)
	if !script.Ok(s) {
		t.Errorf("Ok(%+v): false", s)
	}
	if b, e := script.Put(s); e != api.OK || !bytes.Equal(b, want) {
		t.Errorf("Put(%+v): % x, error %d, not % x", s, b, e, want)
	}
	if !same(s, was) {
		t.Errorf("handed in %+v, it is %+v then", was, s)
	}
	checkGet(t, want, s)
}

// checkGet asks for the script of bytes.
func checkGet(t *testing.T, b []byte, want script.Script) {
	t.Helper()
	was := bytes.Clone(b)
	if s, at, e := script.Get(b); e != api.OK || at != -1 || !same(s, want) {
		t.Errorf("Get(% x): %+v, place %d, error %d, not %+v", b, s, at, e, want)
	}
	if !bytes.Equal(b, was) {
		t.Errorf("handed in % x, they are % x then", was, b)
	}
}

// checkMayNot asks that a script may not be, and that it has no bytes; it stays as it was.
func checkMayNot(t *testing.T, s script.Script) {
	t.Helper()
	was := clone(s)
	if script.Ok(s) {
		t.Errorf("Ok(%+v): true", s)
	}
	if b, e := script.Put(s); e != api.ErrArg || len(b) != 0 {
		t.Errorf("Put(%+v): % x, error %d", s, b, e)
	}
	if !same(s, was) {
		t.Errorf("handed in %+v, it is %+v then", was, s)
	}
}

// checkFault asks for the place and the error of bytes that are no script's; they stay as they were.
func checkFault(t *testing.T, b []byte, place int, want api.Errno) {
	t.Helper()
	was := bytes.Clone(b)
	if s, at, e := script.Get(b); e != want || at != place || !same(s, script.Script{}) {
		t.Errorf("Get(% x): %+v, place %d, error %d, not %d, %d", b, s, at, e, place, want)
	}
	if !bytes.Equal(b, was) {
		t.Errorf("handed in % x, they are % x then", was, b)
	}
}
