package world_test

import (
	"bytes"
	"slices"
	"testing"

	"quarrel/api"
	"quarrel/script"
	"quarrel/world"
)

// ordinary has something in each of its parts.
func ordinary() script.Script {
	return script.Script{
		C:     api.Config{Objects: 2, Threads: 2, Records: 300, Tickets: 9, Manager: api.Karma, Wait: 4},
		First: []int64{5, -6},
		Draws: []byte{3, 0, 255},
		All:   lists("r0 +1 w0/=-5 w1", "r1 x1 -3 w0"),
		Picks: []int{0, 1, 1, 0, 255, 7},
	}
}

// ordinaryRow are its bytes: each part stands at the place that is behind it here.
func ordinaryRow() []byte {
	return slices.Concat(
		row("02 02 01 2c 09 02 04"),       // 0: the config
		row("05 fa"),                      // 7: the first values
		row("02"),                         // 9: two transactions of the thread 0
		row("03, 010000, 040001, 020000"), // 10: three operations, at 11, 14 and 17
		row("02, 0300fb, 020100"),         // 20: two, at 21 and 24
		row("01"),                         // 27: one transaction of the thread 1
		row("04, 010100, 050100, 0400fd, 020000"), // 28: four, at 29, 32, 35 and 38
		row("03, 03 00 ff"),                       // 41: three draws
		row("00 01 01 00 ff 07"),                  // 45: the picks
	)
}

// ordinaryPicks is where its picks begin.
const ordinaryPicks = 45

// checkNoWorld asks for the place and the error of bytes that are no script's; they stay as they were.
func checkNoWorld(t *testing.T, b []byte, place int, want api.Errno) {
	t.Helper()
	was := bytes.Clone(b)
	if w, at, e := world.Open(b); w != nil || at != place || e != want {
		t.Errorf("Open(% x): %v, place %d, error %d, not %d, %d", b, w != nil, at, e, place, want)
	}
	if !bytes.Equal(b, was) {
		t.Errorf("handed in % x, they are % x then", was, b)
	}
}

// P21.1: the script of the world is the one whose bytes these are.
func TestOpenOrdinary(t *testing.T) {
	s := open(t, ordinaryRow())
	if got := s.Script(); !alike(got, ordinary()) {
		t.Errorf("the script is %+v", got)
	}
	s.at(0, 6)
	s.values(5, -6)
	if c := s.Crowd().Floor().Config(); c != ordinary().C {
		t.Errorf("the config is %+v", c)
	}
}

// P21.1: of no bytes, nil or empty, and of each beginning that ends ahead of the picks: how many bytes there are, ErrShort. With none of its picks, or some of them, there is a world.
func TestOpenTooShort(t *testing.T) {
	checkNoWorld(t, nil, 0, api.ErrShort)
	checkNoWorld(t, []byte{}, 0, api.ErrShort)
	b := ordinaryRow()
	for n := range ordinaryPicks {
		checkNoWorld(t, b[:n], n, api.ErrShort)
		checkNoWorld(t, bytes.Clone(b[:n]), n, api.ErrShort)
	}
	for n := ordinaryPicks; n <= len(b); n++ {
		s := open(t, b[:n])
		s.at(0, n-ordinaryPicks)
		s.comes(6, n-ordinaryPicks)
	}
}

// P21.1: each fault of chapter 20: its place, its error, and a nil world.
func TestOpenFaults(t *testing.T) {
	for _, q := range []struct {
		place int
		to    byte
		at    int
		e     api.Errno
	}{
		{0, 0, 0, api.ErrRange},  // objects
		{0, 9, 0, api.ErrRange},  //
		{1, 0, 0, api.ErrRange},  // threads
		{1, 7, 0, api.ErrRange},  //
		{2, 16, 0, api.ErrRange}, // records: 4,096 and 44
		{5, 0, 0, api.ErrRange},  // managers
		{5, 5, 0, api.ErrRange},  //
		{6, 0, 0, api.ErrRange},  // waits
		{6, 65, 0, api.ErrRange}, //
		{9, 7, 9, api.ErrForm},   // counts of transactions
		{9, 255, 9, api.ErrForm}, //
		{27, 7, 27, api.ErrForm}, //
		{10, 0, 10, api.ErrForm}, // counts of operations
		{10, 9, 10, api.ErrForm}, //
		{20, 0, 20, api.ErrForm}, //
		{28, 255, 28, api.ErrForm},
		{11, 0, 11, api.ErrForm},                   // operations: a kind
		{11, 6, 11, api.ErrForm},                   //
		{12, 2, 11, api.ErrForm},                   // an object
		{13, 1, 11, api.ErrForm},                   // what is nothing of its own
		{15, 1, 14, api.ErrForm},                   //
		{38, 9, 38, api.ErrForm},                   // the last one
		{41, 10, len(ordinaryRow()), api.ErrShort}, // more draws than there are
		{41, 255, len(ordinaryRow()), api.ErrShort},
	} {
		b := ordinaryRow()
		b[q.place] = q.to
		checkNoWorld(t, b, q.at, q.e)
	}
	few := ordinaryRow()
	few[2], few[3] = 0, 0
	checkNoWorld(t, few, 0, api.ErrRange)
	for n := 1; n < 4; n++ {
		few[3] = byte(n)
		checkNoWorld(t, few, 2, api.ErrFull)
		checkNoWorld(t, few[:7], 2, api.ErrFull)
	}
	few[3] = 4
	open(t, few)
}

// P21.1: of bytes with any one of them changed to any other: a nil world with the place and the error that Get tells, or the world of the script that it tells.
func TestOpenAsGet(t *testing.T) {
	right, wrong := 0, 0
	for i := range ordinaryRow() {
		for v := range 256 {
			b := ordinaryRow()
			b[i] = byte(v)
			want, at, e := script.Get(b)
			if e != api.OK {
				checkNoWorld(t, b, at, e)
				wrong++
				continue
			}
			if s := open(t, b); !alike(s.Script(), want) {
				t.Errorf("Open(% x): the script %+v, not %+v", b, s.Script(), want)
			}
			right++
		}
	}
	if right < 1000 || wrong < 1000 {
		t.Errorf("%d right ones, %d wrong ones: too few to tell", right, wrong)
	}
}

// P21.1: as many picks as there are bytes left: a pick of 255 is one as any other.
func TestOpenEachPick(t *testing.T) {
	b := example()[:len(example())-11]
	for v := range 256 {
		s := open(t, append(bytes.Clone(b), byte(v)))
		s.at(0, 1)
		if l := s.Script().Picks; !slices.Equal(l, []int{v}) {
			t.Errorf("the picks are %v, not %d", l, v)
		}
		s.comes(2, 1)
		steps := 0
		if v == 0 {
			steps = 1
		}
		s.made(s.Crowd().Steps(), steps)
	}
}
