package world_test

import (
	"math"
	"slices"
	"testing"

	"quarrel/api"
	"quarrel/script"
	"quarrel/world"
)

// P21.3: at each place Values and Trace are those of the crowd's floor; Crowd is the same one all the time, and Script stays as it was put.
func TestTells(t *testing.T) {
	for _, l := range several() {
		s := opened(t, l)
		c := s.Crowd()
		for range len(l.Picks) + 1 {
			if s.Crowd() != c {
				t.Fatal("another crowd")
			}
			s.values(c.Floor().Values()...)
			if !slices.Equal(s.Trace(), c.Floor().Trace()) {
				t.Errorf("the trace %v, not %v", s.Trace(), c.Floor().Trace())
			}
			if got := s.Script(); !alike(got, l) {
				t.Errorf("the script %+v, not %+v", got, l)
			}
			s.Next()
		}
	}
}

// P21.3: by hand: the trace of one thread that writes once.
func TestTraceByHand(t *testing.T) {
	s := opened(t, by(api.Polite, nil, "=7 w1"))
	s.made(s.Alone(0), 9)
	want := []api.Event{
		{Kind: api.EvBegin, Attempt: 1},
		{Kind: api.EvWrite, Attempt: 1, Obj: 1, Val: 7},
		{Kind: api.EvCommit, Attempt: 1},
	}
	if l := s.Trace(); !slices.Equal(l, want) {
		t.Errorf("the trace %+v, not %+v", l, want)
	}
	s.values(5, 7)
}

// P21.3: the crowd is the thing itself: what is done to it is seen in the world, but isn't a pick of the script.
func TestCrowdItself(t *testing.T) {
	for _, l := range several() {
		s, c := opened(t, l), plain(t, l)
		half := len(l.Picks) / 2
		s.comes(half, half)
		s.Crowd().Run(1, 0, 1, 0, 7)
		s.Crowd().Rounds(3)
		s.at(half, len(l.Picks)-half)
		s.comes(math.MaxInt, len(l.Picks)-half)
		c.Run(l.Picks[:half]...)
		c.Run(1, 0, 1, 0, 7)
		c.Rounds(3)
		c.Run(l.Picks[half:]...)
		s.is(c, "the crowd itself was picked")
		s.Crowd().Floor().Note(api.Event{Kind: api.EvRefuse, Reason: 99})
		if e := s.Trace(); len(e) == 0 || e[len(e)-1].Reason != 99 {
			t.Errorf("the trace %v", e)
		}
	}
}

// P21.3: of a nil world: false, 0, nil, a zero script, none; whatever it is asked.
func TestNilWorld(t *testing.T) {
	var w *world.World
	for range 2 {
		if w.Next() || w.Picked() != 0 || w.Left() != 0 || w.Crowd() != nil {
			t.Errorf("Next: %v, Picked: %d, Left: %d, Crowd: %v", w.Next(), w.Picked(), w.Left(), w.Crowd() != nil)
		}
		for _, n := range numbers() {
			if w.Run(n) != 0 || w.Alone(n) != 0 {
				t.Errorf("Run(%d): %d, Alone(%d): %d", n, w.Run(n), n, w.Alone(n))
			}
			for _, m := range numbers() {
				if got := w.Txns(n, m); got != 0 {
					t.Errorf("Txns(%d, %d): %d", n, m, got)
				}
			}
		}
		if s := w.Script(); !alike(s, script.Script{}) {
			t.Errorf("Script: %+v", s)
		}
		if len(w.Values()) != 0 || len(w.Trace()) != 0 {
			t.Errorf("Values: %v, Trace: %v", w.Values(), w.Trace())
		}
	}
}

// P21.3: what bytes that are no script's open is a nil world.
func TestRefusedWorld(t *testing.T) {
	w, _, _ := world.Open(row("01 01 00 09 05 01"))
	if w.Run(9) != 0 || w.Next() || w.Alone(0) != 0 || w.Txns(0, 1) != 0 || w.Crowd() != nil || len(w.Values()) != 0 {
		t.Error("it isn't a nil one")
	}
}
