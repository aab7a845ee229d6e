package script_test

import (
	"bytes"
	"math"
	"slices"
	"testing"

	"quarrel/api"
	"quarrel/script"
)

// put are the bytes of a script that there must be.
func put(t *testing.T, s script.Script) []byte {
	t.Helper()
	b, e := script.Put(s)
	if e != api.OK {
		t.Fatalf("Put(%+v): error %d", s, e)
	}
	return b
}

// fault is what a plain reader ends at.
type fault struct {
	place int
	e     api.Errno
}

// plain goes through bytes one by one, and looks at each thing when its last byte came.
type plain struct {
	b  []byte
	at int
}

// take is the next byte.
func (p *plain) take() int {
	if p.at == len(p.b) {
		panic(fault{p.at, api.ErrShort})
	}
	p.at++
	return int(p.b[p.at-1])
}

// must ends it, if something isn't so.
func (p *plain) must(so bool, place int, e api.Errno) {
	if !so {
		panic(fault{place, e})
	}
}

// signed is a byte of two's complement.
func (p *plain) signed() int64 {
	n := p.take()
	if n > 127 {
		n -= 256
	}
	return int64(n)
}

// config is the chapter's first part.
func (p *plain) config() api.Config {
	objects, threads := p.take(), p.take()
	records := p.take() * 256
	records += p.take()
	tickets, manager, wait := p.take(), p.take(), p.take()
	p.must(objects >= 1 && objects <= 8 && threads >= 1 && threads <= 6 && manager >= 1 && manager <= 4 && wait >= 1 && wait <= 64, 0, api.ErrRange)
	p.must(records >= 1 && records <= 4096, 0, api.ErrRange)
	p.must(records-objects >= objects, 2, api.ErrFull)
	return api.Config{Objects: objects, Threads: threads, Records: records, Tickets: tickets, Manager: manager, Wait: wait}
}

// op is an operation of so many objects.
func (p *plain) op(objects int) api.Op {
	o := api.Op{Kind: p.take(), Obj: p.take(), Arg: p.signed()}
	p.must(opMay(byte(o.Kind), byte(o.Obj), byte(o.Arg), objects), p.at-3, api.ErrForm)
	return o
}

// txns are a thread's transactions.
func (p *plain) txns(objects int) [][]api.Op {
	var txns [][]api.Op
	left := p.take()
	p.must(left <= 6, p.at-1, api.ErrForm)
	for ; left > 0; left-- {
		var l []api.Op
		ops := p.take()
		p.must(ops != 0 && ops < 9, p.at-1, api.ErrForm)
		for len(l) < ops {
			l = append(l, p.op(objects))
		}
		txns = append(txns, l)
	}
	return txns
}

// plainly is what a plain reader tells of bytes.
func plainly(b []byte) (s script.Script, place int, e api.Errno) {
	defer func() {
		if f, is := recover().(fault); is {
			s, place, e = script.Script{}, f.place, f.e
		}
	}()
	p := &plain{b: b}
	s.C = p.config()
	for len(s.First) < s.C.Objects {
		s.First = append(s.First, p.signed())
	}
	for len(s.All) < s.C.Threads {
		s.All = append(s.All, p.txns(s.C.Objects))
	}
	for left := p.take(); left > 0; left-- {
		s.Draws = append(s.Draws, byte(p.take()))
	}
	for p.at < len(b) {
		s.Picks = append(s.Picks, p.take())
	}
	return s, -1, api.OK
}

// against holds Get against a plain reader; what is got may be, and is put as those bytes.
func against(t *testing.T, b []byte) {
	t.Helper()
	want, place, wrong := plainly(b)
	was := bytes.Clone(b)
	s, at, e := script.Get(b)
	if e != wrong || at != place || !same(s, want) {
		t.Fatalf("Get(% x): %+v, place %d, error %d, not %+v, %d, %d", b, s, at, e, want, place, wrong)
	}
	if !bytes.Equal(b, was) {
		t.Fatalf("handed in % x, they are % x then", was, b)
	}
	if e != api.OK {
		return
	}
	if !script.Ok(s) {
		t.Fatalf("got of % x, and may not be: %+v", b, s)
	}
	if again, e := script.Put(s); e != api.OK || !bytes.Equal(again, b) {
		t.Fatalf("got of % x, and put as % x, error %d", b, again, e)
	}
}

// dice are numbers that look as if they were thrown.
type dice uint32

// to is one from 0 to one below n.
func (d *dice) to(n int) int {
	*d = *d*1664525 + 1013904223
	return int(*d>>8) % n
}

// of is one of several numbers.
func (d *dice) of(l ...int) int { return l[d.to(len(l))] }

// op is an operation of so many objects.
func (d *dice) op(objects int) api.Op {
	kind := 1 + d.to(5)
	if kind == api.Set || kind == api.Add {
		return api.Op{Kind: kind, Arg: int64(d.to(256) - 128)}
	}
	return api.Op{Kind: kind, Obj: d.to(objects)}
}

// script is one that may be.
func (d *dice) script() script.Script {
	c := api.Config{Objects: 1 + d.to(8), Threads: 1 + d.to(6), Tickets: d.to(256), Manager: 1 + d.to(4), Wait: 1 + d.to(64)}
	c.Records = d.of(2*c.Objects, 2*c.Objects+d.to(4097-2*c.Objects), 4096, 256, 255)
	s := script.Script{C: c}
	for range c.Objects {
		s.First = append(s.First, int64(d.to(256)-128))
	}
	for range c.Threads {
		var txns [][]api.Op
		for range d.to(7) {
			var l []api.Op
			for range 1 + d.to(8) {
				l = append(l, d.op(c.Objects))
			}
			txns = append(txns, l)
		}
		s.All = append(s.All, txns)
	}
	for range d.of(0, 1, 255, d.to(256)) {
		s.Draws = append(s.Draws, byte(d.to(256)))
	}
	for range d.of(0, 1, d.to(300)) {
		s.Picks = append(s.Picks, d.to(256))
	}
	return s
}

// P20.3: what was put is got as it was, and what was got is put as those bytes: of scripts that are thrown.
func TestThrownScripts(t *testing.T) {
	for seed := range 5000 {
		d := dice(seed*7919 + 11)
		s := d.script()
		b := put(t, s)
		checkMay(t, s, b)
		against(t, b)
	}
}

// P20.2, P20.3: bytes of scripts that are thrown, spoilt at one place or at several, cut or made longer: a plain reader tells the same; and what is told of a row is told of each longer one.
func TestSpoiltScripts(t *testing.T) {
	for seed := range 10_000 {
		d := dice(seed*104_729 + 5)
		b := put(t, d.script())
		for range d.of(1, 1, 2, 3, 8) {
			place := d.to(d.of(len(b), len(b), min(60, len(b))))
			b[place] = byte(d.of(d.to(256), d.to(10), int(b[place])+1, int(b[place])-1))
		}
		switch d.to(4) {
		case 0:
			b = b[:d.to(len(b)+1)]
		case 1:
			place := d.to(len(b))
			b = slices.Delete(b, place, place+1)
		case 2:
			b = slices.Insert(b, d.to(len(b)), byte(d.to(256)))
		}
		against(t, b)
		_, at, e := script.Get(b)
		if e == api.OK || e == api.ErrShort {
			continue
		}
		checkFault(t, slices.Concat(b, ordinaryRow()), at, e)
		if at > 0 && e == api.ErrForm {
			checkFault(t, b[:at], at, api.ErrShort)
		}
	}
}

// P20.2, P20.3: bytes that are thrown behind a config that may be: small ones, so that some of them are scripts.
func TestThrownBytes(t *testing.T) {
	scripts := 0
	for seed := range 200_000 {
		d := dice(seed*31 + 7)
		b := []byte{byte(1 + d.to(2)), byte(1 + d.to(3)), byte(d.to(17)), byte(d.to(10)), byte(d.to(256)), byte(1 + d.to(4)), byte(1 + d.to(64))}
		for range d.to(40) {
			b = append(b, byte(d.of(0, 0, 1, 1, 2, d.to(6), d.to(256))))
		}
		against(t, b)
		if _, _, e := script.Get(b); e == api.OK {
			scripts++
		}
	}
	if scripts < 1000 {
		t.Errorf("just %d of these bytes are scripts", scripts)
	}
}

// P20.1, P20.3: what Ok tells of a script that is changed in one number is what the chapter's words say, and Put goes by it: what it puts is got again.
func TestChangedScripts(t *testing.T) {
	edges := []int{-129, -128, -1, 0, 1, 2, 3, 4, 5, 6, 7, 8, 9, 15, 16, 64, 65, 127, 128, 255, 256, 4096, 4097, math.MaxInt, math.MinInt}
	for _, base := range []script.Script{example(), ordinary(), empty()} {
		for _, n := range edges {
			for _, change := range []func(*script.Script){
				func(s *script.Script) { s.C.Objects = n },
				func(s *script.Script) { s.C.Threads = n },
				func(s *script.Script) { s.C.Records = n },
				func(s *script.Script) { s.C.Tickets = n },
				func(s *script.Script) { s.C.Manager = n },
				func(s *script.Script) { s.C.Wait = n },
				func(s *script.Script) { s.First[0] = int64(n) },
				func(s *script.Script) { s.First[len(s.First)-1] = int64(n) },
				func(s *script.Script) { s.Picks = append(s.Picks, n) },
				func(s *script.Script) { s.All[0] = [][]api.Op{{{Kind: n}}} },
				func(s *script.Script) { s.All[0] = [][]api.Op{{{Kind: api.Read, Obj: n}}} },
				func(s *script.Script) { s.All[0] = [][]api.Op{{{Kind: api.Set, Arg: int64(n)}}} },
				func(s *script.Script) { s.All[0] = [][]api.Op{{{Kind: api.Set, Obj: n}}} },
				func(s *script.Script) { s.All[0] = [][]api.Op{{{Kind: api.Write, Arg: int64(n)}}} },
				func(s *script.Script) { s.Draws = make([]byte, max(0, min(n, 5000))) },
				func(s *script.Script) { s.All[0] = slices.Repeat(lists("r0")[0], max(0, min(n, 5000))) },
				func(s *script.Script) { s.All[0] = [][]api.Op{slices.Repeat(ops("+1"), max(0, min(n, 5000)))} },
			} {
				s := clone(base)
				change(&s)
				if may(s) {
					checkMay(t, s, put(t, s))
					against(t, put(t, s))
				} else {
					checkMayNot(t, s)
				}
			}
		}
	}
}

// may is what the chapter says of a script, each word of it for itself.
func may(s script.Script) bool {
	is := s.C.Objects >= 1 && s.C.Objects <= 8 && s.C.Threads >= 1 && s.C.Threads <= 6 && s.C.Records >= 1 && s.C.Records <= 4096
	is = is && s.C.Tickets >= 0 && s.C.Tickets <= 255 && s.C.Manager >= 1 && s.C.Manager <= 4 && s.C.Wait >= 1 && s.C.Wait <= 64
	is = is && len(s.First) == s.C.Objects && len(s.All) == s.C.Threads && s.C.Records >= s.C.Objects*2 && len(s.Draws) < 256
	for _, v := range s.First {
		is = is && v == int64(int8(v))
	}
	for _, p := range s.Picks {
		is = is && p == int(byte(p))
	}
	for _, txns := range s.All {
		is = is && len(txns) < 7
		for _, l := range txns {
			is = is && len(l) != 0 && len(l) < 9
			for _, o := range l {
				cut := api.Op{Kind: int(byte(o.Kind)), Obj: int(byte(o.Obj)), Arg: int64(int8(o.Arg))}
				is = is && o == cut && opMay(byte(o.Kind), byte(o.Obj), byte(o.Arg), s.C.Objects)
			}
		}
	}
	return is
}
