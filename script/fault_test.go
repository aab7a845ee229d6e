package script_test

import (
	"bytes"
	"slices"
	"testing"

	"quarrel/api"
)

// with are bytes, of which those from a place on are others.
func with(b []byte, place int, others ...byte) []byte {
	b = bytes.Clone(b)
	copy(b[place:], others)
	return b
}

// P20.2: no bytes, nil and empty; a beginning of right bytes, of each length ahead of the picks; from these on it is a script of fewer picks.
func TestShort(t *testing.T) {
	checkFault(t, nil, 0, api.ErrShort)
	checkFault(t, []byte{}, 0, api.ErrShort)
	b, s := ordinaryRow(), ordinary()
	for n := range ordinaryPicks {
		checkFault(t, b[:n], n, api.ErrShort)
	}
	for n := range len(s.Picks) + 1 {
		fewer := s
		fewer.Picks = s.Picks[:n]
		checkMay(t, fewer, b[:ordinaryPicks+n])
	}
	for _, s := range several() {
		s.Picks = nil
		b := put(t, s)
		for n := range b {
			checkFault(t, b[:n], n, api.ErrShort)
		}
	}
	// What is short isn't right for the sake of zeros, or of what lies in its spare room.
	for n := range 7 {
		checkFault(t, make([]byte, n), n, api.ErrShort)
	}
}

// P20.2: a config that may not be, by each byte, alone, cut short by one byte, and with any bytes behind it.
func TestConfigOutOfRange(t *testing.T) {
	right := row("02 02 01 2c 09 02 04")
	for at := range 7 {
		for n := range 256 {
			head := with(right, at, byte(n))
			records := 256*int(head[2]) + int(head[3])
			may := within(head[0], 1, 8) && within(head[1], 1, 6) && records >= 1 && records <= 4096 && within(head[5], 1, 4) && within(head[6], 1, 64)
			checkFault(t, head[:6], 6, api.ErrShort)
			place, e := 7, api.ErrShort
			if !may {
				place, e = 0, api.ErrRange
			} else if records < 2*int(head[0]) {
				place, e = 2, api.ErrFull
			}
			checkFault(t, head, place, e)
			if e == api.ErrShort {
				continue
			}
			for _, behind := range [][]byte{{0}, {255}, right, ordinaryRow()[7:], bytes.Repeat([]byte{255}, 300)} {
				checkFault(t, slices.Concat(head, behind), place, e)
			}
		}
	}
}

// within says whether a byte is from a least to a greatest one.
func within(b, least, most byte) bool { return b >= least && b <= most }

// P20.2: each number of Records that two bytes can tell, of each number of objects: out of range ahead of too little room.
func TestRecordsOfBytes(t *testing.T) {
	for objects := 1; objects <= 8; objects++ {
		b := slices.Concat([]byte{byte(objects)}, row("01 00 00 05 01 02"), make([]byte, objects), row("00, 00"))
		for records := range 65_536 {
			b[2], b[3] = byte(records/256), byte(records%256)
			s := example()
			s.C.Objects, s.C.Records, s.First = objects, records, make([]int64, objects)
			switch {
			case records == 0 || records > 4096:
				checkFault(t, b, 0, api.ErrRange)
			case records < 2*objects:
				checkFault(t, b, 2, api.ErrFull)
				checkFault(t, b[:7], 2, api.ErrFull)
				checkFault(t, b[:6], 6, api.ErrShort)
				checkFault(t, with(b, 5, 5), 0, api.ErrRange)
			default:
				checkGet(t, b, s)
			}
		}
	}
}

// P20.2: a count of transactions above 6, of each thread, as the last byte and with others behind it.
func TestCountOfTransactions(t *testing.T) {
	b := ordinaryRow()
	for _, place := range []int{9, 27} {
		for n := 7; n <= 255; n++ {
			wrong := with(b, place, byte(n))
			checkFault(t, wrong[:place], place, api.ErrShort)
			checkFault(t, wrong[:place+1], place, api.ErrForm)
			checkFault(t, wrong[:place+2], place, api.ErrForm)
			checkFault(t, wrong, place, api.ErrForm)
		}
		for n := range 7 {
			right := with(b[:place+1], place, byte(n))
			checkFault(t, right, place+1, api.ErrShort)
		}
	}
	for no := range 6 {
		for _, n := range []byte{7, 8, 127, 128, 255} {
			b := put(t, empty())
			checkFault(t, with(b, 15+no, n), 15+no, api.ErrForm)
			checkFault(t, with(b[:16+no], 15+no, n), 15+no, api.ErrForm)
		}
	}
}

// P20.2: a count of operations of 0, or above 8, of each transaction, as the last byte and with others behind it.
func TestCountOfOperations(t *testing.T) {
	b := ordinaryRow()
	for _, place := range []int{10, 20, 28} {
		for n := range 256 {
			wrong := with(b, place, byte(n))
			if n >= 1 && n <= 8 {
				checkFault(t, wrong[:place+1], place+1, api.ErrShort)
				continue
			}
			checkFault(t, wrong[:place], place, api.ErrShort)
			checkFault(t, wrong[:place+1], place, api.ErrForm)
			checkFault(t, wrong[:place+2], place, api.ErrForm)
			checkFault(t, wrong, place, api.ErrForm)
		}
	}
	b = put(t, greatest())
	for thread := range 6 {
		for txn := range 6 {
			place := 15 + 151*thread + 1 + 25*txn
			for _, n := range []byte{0, 9, 255} {
				checkFault(t, with(b, place, n), place, api.ErrForm)
				checkFault(t, with(b[:place+1], place, n), place, api.ErrForm)
			}
		}
	}
}

// opMay is what chapter 11 says of an operation's three bytes, each word of it for itself.
func opMay(kind, obj, arg byte, objects int) bool {
	switch kind {
	case 1, 2, 5:
		return int(obj) < objects && arg == 0
	case 3, 4:
		return obj == 0
	}
	return false
}

// P20.2: an operation that may not be, by each of its bytes, of each operation; cut short ahead of its third byte it is short, and of what stands behind it nothing is asked.
func TestOperationThatMayNot(t *testing.T) {
	b := ordinaryRow()
	for _, place := range []int{11, 14, 17, 21, 24, 29, 32, 35, 38} {
		for at := range 3 {
			for n := range 256 {
				wrong := with(b, place+at, byte(n))
				if opMay(wrong[place], wrong[place+1], wrong[place+2], 2) {
					continue
				}
				checkFault(t, wrong[:place], place, api.ErrShort)
				checkFault(t, wrong[:place+1], place+1, api.ErrShort)
				checkFault(t, wrong[:place+2], place+2, api.ErrShort)
				checkFault(t, wrong[:place+3], place, api.ErrForm)
				checkFault(t, wrong[:place+4], place, api.ErrForm)
				checkFault(t, wrong, place, api.ErrForm)
				checkFault(t, append(wrong[:place+3:place+3], 255, 255, 255, 255), place, api.ErrForm)
			}
		}
	}
}

// P20.2: any three bytes as the one operation of a script, of one object, of three and of eight.
func TestAnyOperation(t *testing.T) {
	for _, objects := range []int{1, 3, 8} {
		s := example()
		s.C.Objects, s.C.Records, s.First = objects, 16, make([]int64, objects)
		s.All = lists("r0")
		b := put(t, s)
		place := 7 + objects + 2
		for kind := range 256 {
			for obj := range 256 {
				for _, arg := range []byte{0, 1, 127, 128, 255} {
					b[place], b[place+1], b[place+2] = byte(kind), byte(obj), arg
					if !opMay(byte(kind), byte(obj), arg, objects) {
						checkFault(t, b, place, api.ErrForm)
						continue
					}
					s.All[0][0][0] = api.Op{Kind: kind, Obj: obj, Arg: int64(int8(arg))}
					checkGet(t, b, s)
				}
			}
		}
	}
}

// P20.2: of what may be anything nothing is asked: first values, draws, picks.
func TestAnyBytes(t *testing.T) {
	b := ordinaryRow()
	for n := range 256 {
		s := ordinary()
		s.First[0], s.First[1] = int64(int8(n)), int64(int8(255-n))
		s.Draws = []byte{byte(n), byte(n + 1), byte(n + 2)}
		s.Picks = []int{n, n, 255 - n}
		checkMay(t, s, slices.Concat(b[:7], []byte{byte(n), byte(255 - n)}, b[9:42], s.Draws, []byte{byte(n), byte(n), byte(255 - n)}))
	}
}

// P20.2: of draws there must be as many as is told; what is left are picks.
func TestDrawsOfBytes(t *testing.T) {
	head := row("01 01 00 09 05 01 02, 07, 00")
	for n := range 256 {
		b := append(bytes.Clone(head), byte(n))
		for i := range 300 {
			if i < n {
				checkFault(t, b, len(b), api.ErrShort)
			} else {
				s := example()
				s.Draws = bytes.Clone(b[10 : 10+n])
				for _, p := range b[10+n:] {
					s.Picks = append(s.Picks, int(p))
				}
				checkGet(t, b, s)
			}
			b = append(b, byte(i*5+n))
		}
	}
}

// spoiler is a change of the ordinary script's bytes, and what is told of it once the byte at until is there.
type spoiler struct {
	place, until int
	others       []byte
	fault        int
	e            api.Errno
}

// spoilers are of each kind, at several places.
func spoilers() []spoiler {
	l := []spoiler{
		{0, 6, []byte{0}, 0, api.ErrRange}, {1, 6, []byte{7}, 0, api.ErrRange}, {2, 6, []byte{0, 0}, 0, api.ErrRange},
		{5, 6, []byte{5}, 0, api.ErrRange}, {6, 6, []byte{65}, 0, api.ErrRange}, {2, 6, []byte{0, 3}, 2, api.ErrFull},
	}
	for _, place := range []int{9, 27} {
		l = append(l, spoiler{place, place, []byte{7}, place, api.ErrForm}, spoiler{place, place, []byte{255}, place, api.ErrForm})
	}
	for _, place := range []int{10, 20, 28} {
		for _, n := range []byte{0, 9, 255} {
			l = append(l, spoiler{place, place, []byte{n}, place, api.ErrForm})
		}
	}
	for _, place := range []int{11, 14, 17, 21, 24, 29, 32, 35, 38} {
		l = append(l, spoiler{place, place + 2, []byte{6}, place, api.ErrForm}, spoiler{place, place + 2, []byte{1, 2, 0}, place, api.ErrForm}, spoiler{place, place + 2, []byte{2, 0, 1}, place, api.ErrForm})
	}
	return l
}

// overlap says whether two spoilers change one byte.
func overlap(x, y spoiler) bool {
	return x.place < y.place+len(y.others) && y.place < x.place+len(x.others)
}

// P20.2: two of these in one row, in each order, with each beginning of it: the first one from the left is told, once its bytes are there; ahead of that the row is short.
func TestTwoFaults(t *testing.T) {
	for _, x := range spoilers() {
		for _, y := range spoilers() {
			if y.fault < x.fault || overlap(x, y) && x.place != y.place {
				continue // it is gone through the other way round, or one of them spoils the other one
			}
			b := with(with(ordinaryRow(), y.place, y.others...), x.place, x.others...)
			for n := range len(b) + 1 {
				if n <= x.until {
					checkFault(t, b[:n], n, api.ErrShort)
				} else {
					checkFault(t, b[:n], x.fault, x.e)
				}
			}
		}
	}
}

// P20.2: each byte of several scripts is made each other one, and what comes of it cut short anywhere behind that byte, or made longer: a plain reader tells the same.
func TestEachByte(t *testing.T) {
	for _, right := range [][]byte{put(t, example()), ordinaryRow(), put(t, empty())} {
		for at := range right {
			for n := range 256 {
				b := with(right, at, byte(n))
				against(t, append(b, ordinaryRow()...))
				for end := at + 1; end <= len(b); end++ {
					against(t, b[:end])
				}
			}
		}
	}
	full := greatest()
	full.Picks = full.Picks[:9]
	right := put(t, full)
	for at := range right {
		for _, n := range []byte{0, 1, 6, 7, 9, 128} {
			b := with(right, at, n)
			against(t, b)
			against(t, b[:min(at+30, len(b))])
		}
	}
}
