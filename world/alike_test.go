package world_test

import (
	"math"
	"testing"

	"quarrel/api"
	"quarrel/script"
)

// P21.4: to run n and then m picks is to run n and m together, at every n; and picks that come one by one are those that come at once.
func TestInTwoGoes(t *testing.T) {
	for _, l := range several() {
		most := len(l.Picks)
		for n := range most + 1 {
			for _, m := range []int{0, 1, 7, most - n, most - n + 1, math.MaxInt} {
				one, two, three := opened(t, l), opened(t, l), opened(t, l)
				together := n + min(m, most-n)
				one.comes(together, together)
				two.comes(n, n)
				two.comes(m, together-n)
				for range together {
					three.Next()
				}
				want := one.told()
				two.same(want, "in two goes")
				three.same(want, "one by one")
			}
		}
	}
}

// P21.4: the same with picks that aren't the script's between: what was done is told alike by two worlds of the same bytes, at every place.
func TestTwoWorlds(t *testing.T) {
	for _, l := range several() {
		b := put(t, l)
		one, two := open(t, b), open(t, b)
		for i := range 300 {
			one.same(two.told(), "two worlds of the same bytes")
			no := i % (l.C.Threads + 1)
			switch i % 5 {
			case 0, 1:
				if one.Next() != two.Next() {
					t.Fatal("of one alone a pick came")
				}
			case 2:
				one.comes(i, two.Run(i))
			case 3:
				one.made(one.Txns(no, 1), two.Txns(no, 1))
			default:
				if i > 20 {
					one.made(one.Alone(no), two.Alone(no))
				}
			}
		}
		one.same(two.told(), "two worlds of the same bytes, at the end")
	}
}

// P21.4: worlds of the same bytes have nothing of each other: while one is run to its end, the other one stands as it was opened.
func TestWorldsApart(t *testing.T) {
	for _, l := range several() {
		b := put(t, l)
		one, two := open(t, b), open(t, b)
		before := two.told()
		one.comes(math.MaxInt, len(l.Picks))
		for no := range l.C.Threads {
			one.Alone(no)
		}
		two.same(before, "the other one was run")
		if one.World == two.World || one.Crowd() == two.Crowd() {
			t.Error("two worlds are one")
		}
	}
}

// dice throws numbers that are the same with each run.
type dice uint64

// to is a number from 0 to n-1.
func (d *dice) to(n int) int {
	*d = *d*6364136223846793005 + 1442695040888963407
	return int(uint64(*d) >> 33 % uint64(n))
}

// op is an operation on one of so many objects.
func (d *dice) op(objects int) api.Op {
	switch kind := 1 + d.to(5); kind {
	case api.Set, api.Add:
		return api.Op{Kind: kind, Arg: int64(d.to(256) - 128)}
	default:
		return api.Op{Kind: kind, Obj: d.to(objects)}
	}
}

// script is one that may be, often with too few tickets or records.
func (d *dice) script() script.Script {
	c := api.Config{Objects: 1 + d.to(4), Threads: 1 + d.to(6), Records: 600, Tickets: 60, Manager: 1 + d.to(4), Wait: 1 + d.to(64)}
	if d.to(3) == 0 {
		c.Records, c.Tickets = 2*c.Objects+d.to(60), d.to(6)
	}
	s := script.Script{C: c}
	for range c.Objects {
		s.First = append(s.First, int64(d.to(256)-128))
	}
	for range d.to(9) {
		s.Draws = append(s.Draws, byte(d.to(256)))
	}
	for range c.Threads {
		var txns [][]api.Op
		for range d.to(7) {
			var l []api.Op
			for range 1 + d.to(8) {
				l = append(l, d.op(c.Objects))
			}
			txns = append(txns, l)
		}
		s.All = append(s.All, txns)
	}
	for range d.to(400) {
		no := d.to(c.Threads)
		if d.to(12) == 0 {
			no = d.to(256)
		}
		s.Picks = append(s.Picks, no)
	}
	return s
}

// P21.1, P21.2, P21.4: thrown scripts, of which picks come and threads go alone in thrown turns: each call tells what a plain crowd's picks tell, and all is as with it.
func TestThrown(t *testing.T) {
	alone, refused := 0, 0
	for seed := range 400 {
		d := dice(seed*7919 + 3)
		l := d.script()
		s, c := opened(t, l), plain(t, l)
		came := 0
		for s.Left() > 0 || d.to(4) > 0 {
			no := d.to(l.C.Threads+2) - 1
			switch d.to(9) {
			case 0:
				made := s.Alone(no)
				s.made(made, goesAlone(c, no))
				alone += made
			case 1, 2:
				n := d.to(4)
				made := s.Txns(no, n)
				s.made(made, goesTxns(c, no, n))
				alone += made
			case 3, 4, 5:
				if got := s.Next(); got != (came < len(l.Picks)) {
					t.Fatalf("the seed %d, behind %d picks of %d: Next: %v", seed, came, len(l.Picks), got)
				} else if got {
					c.Pick(l.Picks[came])
					came++
				}
			default:
				n := d.to(60) - 5
				come := min(max(n, 0), len(l.Picks)-came)
				s.comes(n, come)
				c.Run(l.Picks[came : came+come]...)
				came += come
			}
			if s.at(came, len(l.Picks)-came); t.Failed() {
				t.Fatalf("the seed %d: %+v", seed, l)
			}
		}
		s.is(c, "thrown")
		if !alike(s.Script(), l) {
			t.Errorf("the script %+v, not %+v", s.Script(), l)
		}
		for _, e := range s.Trace() {
			if e.Kind == api.EvRefuse {
				refused++
			}
		}
	}
	if alone < 5000 || refused < 50 {
		t.Errorf("%d steps alone, %d refused: too few to tell", alone, refused)
	}
}
