package world_test

import (
	"bytes"
	"math"
	"slices"
	"testing"

	"quarrel/api"
	"quarrel/script"
)

// P21.1: the bytes that are handed in stay as they were, what lies behind them too, through all that is done to the world.
func TestHandedInBytes(t *testing.T) {
	for _, l := range several() {
		b := put(t, l)
		room := slices.Concat(b, row("00 01 02 03"))
		was := bytes.Clone(room)
		s := open(t, room[:len(b)])
		s.at(0, len(l.Picks))
		s.comes(len(l.Picks)/2, len(l.Picks)/2)
		s.Txns(0, 1)
		s.comes(math.MaxInt, len(l.Picks)-len(l.Picks)/2)
		s.Alone(1)
		s.Script()
		if !bytes.Equal(room, was) {
			t.Errorf("handed in % x, they are % x then", was, room)
		}
	}
}

// P21.1: the bytes that are handed in aren't kept: changed behind Open, they change nothing of the world.
func TestBytesAreNotKept(t *testing.T) {
	for _, l := range several() {
		b := put(t, l)
		s, twin := open(t, b), open(t, bytes.Clone(b))
		for i := range b {
			b[i] ^= 0x55
		}
		s.same(twin.told(), "the bytes were changed")
		s.comes(math.MaxInt, len(l.Picks))
		twin.comes(math.MaxInt, len(l.Picks))
		s.made(s.Alone(0), twin.Alone(0))
		s.same(twin.told(), "the bytes were changed, and all picks came")
	}
}

// fill puts a thing at each place of a list, and into its spare room.
func fill[T any](l []T, v T) {
	l = l[:cap(l)]
	for i := range l {
		l[i] = v
	}
}

// spoilers are changes of a script, each of one of its lists, up to the end of its room.
func spoilers(s script.Script) []func(script.Script) {
	l := []func(script.Script){
		func(s script.Script) { fill(s.First, 99) },
		func(s script.Script) { fill(s.Draws, 99) },
		func(s script.Script) { fill(s.Picks, 1) },
		func(s script.Script) { fill(s.All, lists("=99/=99")[0]) },
	}
	for i, txns := range s.All {
		l = append(l, func(s script.Script) { fill(s.All[i], ops("=99")) })
		for j := range txns {
			l = append(l, func(s script.Script) { fill(s.All[i][j], api.Op{Kind: api.Set, Arg: 99}) })
		}
	}
	return l
}

// P21.3: the script that is told is one's own, with all its lists: changed, it changes nothing that is told or done later, at the beginning and on the way.
func TestScriptIsOnesOwn(t *testing.T) {
	for _, l := range several() {
		for _, spoil := range spoilers(l) {
			s, twin := opened(t, l), opened(t, l)
			spoil(s.Script())
			if got := s.Script(); !alike(got, l) {
				t.Fatalf("the script is %+v then, not %+v", got, l)
			}
			s.comes(len(l.Picks)/2, len(l.Picks)/2)
			spoil(s.Script())
			s.comes(math.MaxInt, len(l.Picks)-len(l.Picks)/2)
			twin.comes(math.MaxInt, len(l.Picks))
			for no := range l.C.Threads {
				s.made(s.Alone(no), twin.Alone(no))
			}
			s.same(twin.told(), "the script was changed")
		}
	}
}

// P21.3: a script that was told stays as it was, whatever is done to the world, or to one that is told later; and none of its lists reaches into another one.
func TestScriptStays(t *testing.T) {
	for _, l := range several() {
		s := opened(t, l)
		early := s.Script()
		s.comes(math.MaxInt, len(l.Picks))
		for _, spoil := range spoilers(l) {
			spoil(s.Script())
		}
		if !alike(early, l) {
			t.Errorf("told was %+v, it is %+v then", l, early)
		}
		for i, txns := range early.All {
			for j := range txns {
				one := clone(early)
				early.All[i][j] = append(early.All[i][j], api.Op{Kind: api.Set, Arg: 77})
				one.All[i][j] = append(one.All[i][j], api.Op{Kind: api.Set, Arg: 77})
				if !alike(early, one) {
					t.Errorf("one list was changed, and the script is %+v, not %+v", early, one)
				}
			}
		}
	}
}

// P21.3: the values and the trace that are told are one's own, their spare room too: changed, they change nothing that is told or done later; and they stay as they were.
func TestValuesAndTraceAreOnesOwn(t *testing.T) {
	for _, l := range several() {
		s, twin := opened(t, l), opened(t, l)
		for range len(l.Picks) + 1 {
			values, trace := s.Values(), s.Trace()
			wasValues, wasTrace := slices.Clone(values), slices.Clone(trace)
			s.Next()
			if !slices.Equal(values, wasValues) || !slices.Equal(trace, wasTrace) {
				t.Errorf("told were %v and %v, they are %v and %v then", wasValues, wasTrace, values, trace)
			}
			fill(values, 99)
			fill(trace, api.Event{Kind: 99})
			fill(s.Values(), 98)
			fill(s.Trace(), api.Event{Kind: 98})
			twin.Next()
		}
		s.same(twin.told(), "what was told was changed")
	}
}

// P21.3: what is told changes nothing: a world that is asked all the time is as one that is not.
func TestAskedAllTheTime(t *testing.T) {
	for _, l := range several() {
		s, twin := opened(t, l), opened(t, l)
		for s.Next() {
			s.told()
			s.told()
		}
		twin.comes(math.MaxInt, len(l.Picks))
		s.same(twin.told(), "asked all the time")
	}
}
