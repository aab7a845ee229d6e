package script

import (
	"quarrel/api"
	"quarrel/floor"
	"quarrel/lang"
)

// How many bytes a config and an operation have, and where in a config's bytes the Records begin.
const (
	headSize  = 7
	opSize    = 3
	recordsAt = 2
)

// reader goes through a script's bytes from the left, and puts the script together. It goes on behind what is right alone, so that beside an error it stands at the fault.
type reader struct {
	bytes  []byte
	at     int
	script Script
}

// parts read the script's parts, in the order of its bytes; the config comes first, since it says how much there is of others.
func (r *reader) parts() []func() api.Errno {
	return []func() api.Errno{r.config, r.first, r.all, r.draws, r.picks}
}

// ahead are the next bytes, so many; it doesn't go on behind them yet. What ends too soon is at fault at its end.
func (r *reader) ahead(n int) ([]byte, api.Errno) {
	if len(r.bytes)-r.at < n {
		r.at = len(r.bytes)
		return nil, api.ErrShort
	}
	return r.bytes[r.at : r.at+n], api.OK
}

// list are things that are read one by one, so many.
func list[T any](n int, read func() (T, api.Errno)) ([]T, api.Errno) {
	l := make([]T, 0, n)
	for range n {
		v, e := read()
		if e != api.OK {
			return nil, e
		}
		l = append(l, v)
	}
	return l, api.OK
}

// config reads the config.
func (r *reader) config() api.Errno {
	b, e := r.ahead(headSize)
	if e != api.OK {
		return e
	}
	c := api.Config{
		Objects: int(b[0]), Threads: int(b[1]), Records: int(b[2])<<8 | int(b[3]),
		Tickets: int(b[4]), Manager: int(b[5]), Wait: int(b[6]),
	}
	if !floor.Check(c) {
		return api.ErrRange
	}
	if !hasRoom(c) {
		r.at = recordsAt
		return api.ErrFull
	}
	r.at += headSize
	r.script.C = c
	return api.OK
}

// first reads the first values.
func (r *reader) first() (e api.Errno) {
	r.script.First, e = list(r.script.C.Objects, r.value)
	return e
}

// all reads each thread's transactions.
func (r *reader) all() (e api.Errno) {
	r.script.All, e = list(r.script.C.Threads, r.txns)
	return e
}

// draws reads how many draws there are, and the draws.
func (r *reader) draws() api.Errno {
	n, e := r.count(0, mostDraws)
	if e != api.OK {
		return e
	}
	r.script.Draws, e = list(n, r.next)
	return e
}

// picks reads the picks: all bytes that are left.
func (r *reader) picks() (e api.Errno) {
	r.script.Picks, e = list(len(r.bytes)-r.at, r.pick)
	return e
}

// next is the next byte.
func (r *reader) next() (byte, api.Errno) {
	b, e := r.ahead(1)
	if e != api.OK {
		return 0, e
	}
	r.at++
	return b[0], api.OK
}

// value is a first value, of two's complement.
func (r *reader) value() (int64, api.Errno) {
	b, e := r.next()
	return int64(int8(b)), e
}

// pick is a pick.
func (r *reader) pick() (int, api.Errno) {
	b, e := r.next()
	return int(b), e
}

// count is a number of things, from a least to a greatest one.
func (r *reader) count(least, most int) (int, api.Errno) {
	b, e := r.ahead(1)
	if e != api.OK {
		return 0, e
	}
	n := int(b[0])
	if n < least || n > most {
		return 0, api.ErrForm
	}
	r.at++
	return n, api.OK
}

// txns are a thread's transactions.
func (r *reader) txns() ([][]api.Op, api.Errno) {
	n, e := r.count(0, api.MaxTxns)
	if e != api.OK {
		return nil, e
	}
	return list(n, r.txn)
}

// txn is a transaction; its operations are read one by one, so that one that may not be is told ahead of bytes that are missing behind it.
func (r *reader) txn() ([]api.Op, api.Errno) {
	n, e := r.count(1, api.MaxOps)
	if e != api.OK {
		return nil, e
	}
	return list(n, r.op)
}

// op is an operation.
func (r *reader) op() (api.Op, api.Errno) {
	b, e := r.ahead(opSize)
	if e != api.OK {
		return api.Op{}, e
	}
	l, _, e := lang.Get(b, r.script.C.Objects)
	if e != api.OK {
		return api.Op{}, e
	}
	r.at += opSize
	return l[0], api.OK
}
