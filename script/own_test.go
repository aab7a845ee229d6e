package script_test

import (
	"bytes"
	"slices"
	"testing"

	"quarrel/api"
	"quarrel/script"
)

// roomy is what it is of, each list with spare room behind it, in which something stands.
func roomy(s script.Script) script.Script {
	s = clone(s)
	s.First = append(s.First, 77, 78)[:len(s.First)]
	s.Draws = append(s.Draws, 79, 80)[:len(s.Draws)]
	s.Picks = append(s.Picks, 81, 82)[:len(s.Picks)]
	for i, txns := range s.All {
		for j, l := range txns {
			txns[j] = append(l, ops("=83 w1")...)[:len(l)]
		}
		s.All[i] = append(txns, ops("=84 w1"))[:len(txns)]
	}
	s.All = append(s.All, lists("=85 w1")...)[:len(s.All)]
	return s
}

// whole is what it is of, each list as long as its room; the lists stay those of what it is of.
func whole(s script.Script) script.Script {
	s.First, s.Draws, s.Picks = s.First[:cap(s.First)], s.Draws[:cap(s.Draws)], s.Picks[:cap(s.Picks)]
	s.All = slices.Clone(s.All[:cap(s.All)])
	for i, txns := range s.All {
		s.All[i] = slices.Clone(txns[:cap(txns)])
		for j, l := range s.All[i] {
			s.All[i][j] = l[:cap(l)]
		}
	}
	return s
}

// listSpoilers are changes of a script, each of one of its lists, up to the end of its room.
func listSpoilers(s script.Script) []func(script.Script) {
	l := []func(script.Script){
		func(s script.Script) { fill(s.First, 99) },
		func(s script.Script) { fill(s.Draws, 99) },
		func(s script.Script) { fill(s.Picks, 99) },
		func(s script.Script) { fill(s.All, lists("=99/=99")[0]) },
	}
	for i, txns := range s.All {
		l = append(l, func(s script.Script) { fill(s.All[i], ops("=99")) })
		for j := range txns {
			l = append(l, func(s script.Script) { fill(s.All[i][j], api.Op{Kind: 99, Obj: 99, Arg: 99}) })
		}
	}
	return l
}

// fill puts a thing at each place of a list, and into its spare room.
func fill[T any](l []T, v T) {
	l = l[:cap(l)]
	for i := range l {
		l[i] = v
	}
}

// P20.1: Ok and Put leave the script as it was, the spare room of its lists too, whether it may be or not.
func TestHandedInScript(t *testing.T) {
	spoil := []func(*script.Script){
		func(s *script.Script) {},
		func(s *script.Script) { s.C.Wait = 65 },
		func(s *script.Script) { s.C.Records = 1 },
		func(s *script.Script) { s.First[0] = 128 },
		func(s *script.Script) { s.All[0] = [][]api.Op{nil} },
		func(s *script.Script) { s.All = s.All[:len(s.All)-1] },
		func(s *script.Script) { s.Picks = append(s.Picks, 256) },
	}
	for _, base := range several() {
		for _, change := range spoil {
			s := roomy(base)
			change(&s)
			was := clone(whole(s))
			script.Ok(s)
			script.Put(s)
			if !same(whole(s), was) {
				t.Errorf("handed in %+v, it is %+v then", was, whole(s))
			}
		}
	}
}

// P20.2: Get leaves its bytes as they were, what lies behind them too, and asks for none of that.
func TestHandedInBytes(t *testing.T) {
	for _, base := range several() {
		b := put(t, base)
		room := slices.Concat(b, row("01 02 03 04 05 06 07 08"))
		was := bytes.Clone(room)
		for _, n := range []int{0, 3, 6, 7, len(b) / 2, len(b) - len(base.Picks) - 1} {
			checkFault(t, room[:n], n, api.ErrShort)
		}
		checkGet(t, room[:len(b)], base)
		if !bytes.Equal(room, was) {
			t.Errorf("handed in % x, they are % x then", was, room)
		}
	}
}

// P20.1: bytes that were put stay as they are, whatever is done to the script; and they are one's own.
func TestPutIsOnesOwn(t *testing.T) {
	for _, base := range several() {
		want := put(t, base)
		for _, spoil := range listSpoilers(base) {
			s := roomy(base)
			b := put(t, s)
			spoil(s)
			if !bytes.Equal(b, want) {
				t.Errorf("put were % x, they are % x then", want, b)
			}
		}
		s := roomy(base)
		was := clone(whole(s))
		b := put(t, s)
		fill(b, 99)
		if !same(whole(s), was) {
			t.Errorf("the bytes changed, and the script with them: %+v, not %+v", whole(s), was)
		}
		checkMay(t, s, want)
	}
}

// P20.2: a script that was got stays as it is, whatever is done to the bytes.
func TestGotIsKept(t *testing.T) {
	for _, base := range several() {
		b := put(t, base)
		s, _, _ := script.Get(b)
		fill(b, 99)
		if !same(s, base) {
			t.Errorf("got was %+v, it is %+v then", base, s)
		}
	}
}

// P20.2: a script that was got is one's own, each of its lists: one that is changed, up to the end of its room, changes no other one, no bytes, and nothing that is told later.
func TestGotIsOnesOwn(t *testing.T) {
	for _, base := range several() {
		b := put(t, base)
		was := bytes.Clone(b)
		for no, spoil := range listSpoilers(base) {
			s, _, _ := script.Get(b)
			other, _, _ := script.Get(b)
			spoil(s)
			want := clone(base)
			spoil(want)
			if !same(s, want) {
				t.Errorf("the list %d is changed, and another one with it: %+v, not %+v", no, s, want)
			}
			if !same(other, base) || !bytes.Equal(b, was) {
				t.Errorf("the list %d is changed, and what was told with it: %+v, of % x", no, other, b)
			}
			checkGet(t, b, base)
		}
	}
}

// P20.2: lists that are got can be made longer, each without another one being changed.
func TestGotAndMadeLonger(t *testing.T) {
	for _, base := range several() {
		s, _, _ := script.Get(put(t, base))
		_ = append(s.First, 99)
		_ = append(s.Draws, 99)
		_ = append(s.Picks, 99)
		_ = append(s.All, lists("=99")...)
		for _, txns := range s.All {
			_ = append(txns, ops("=99"))
			for _, l := range txns {
				_ = append(l, ops("=99 w0")...)
			}
		}
		if !same(s, base) {
			t.Errorf("lists are longer, and others changed: %+v, not %+v", s, base)
		}
	}
}

// P20.1, P20.2: the same is told each time, whatever was asked between.
func TestToldAgain(t *testing.T) {
	for range 3 {
		for _, s := range several() {
			checkMay(t, s, put(t, s))
			checkFault(t, nil, 0, api.ErrShort)
			checkMayNot(t, script.Script{})
			checkFault(t, with(ordinaryRow(), 9, 7), 9, api.ErrForm)
			checkGet(t, ordinaryRow(), ordinary())
		}
	}
}
