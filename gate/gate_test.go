package gate_test

import (
	"math"
	"testing"

	"quarrel/api"
	"quarrel/choice"
	"quarrel/gate"
)

// top is where Tries and Looks stay.
const top = 1_000_000

// numbers are ordinary ones, the edges of threads, stamps, looks and waits among them, and the ends of what an int can be.
func numbers() []int {
	return []int{
		0, 1, 2, 3, 5, 6, 7, 8, 9, 63, 64, 65, 254, 255, 256, 999_999, 1_000_000, 1_000_001, math.MaxInt32, math.MaxInt - 1, math.MaxInt,
		-1, -2, -3, -5, -6, -7, -64, -1_000_000, math.MinInt32, math.MinInt + 1, math.MinInt,
	}
}

// fewer are some of the numbers, for what is asked of all of several ones together.
func fewer() []int { return []int{0, 1, 7, -1, 999_999, 1_000_000, math.MaxInt, math.MinInt} }

// stamps are what a senior's may be: those of tickets, and far greater ones, up to the end of an int, and beside where a part of an int ends.
func stamps() []int {
	list := []int{0, 1, 2, 3, 5, 6, 7, 8, 11, 12, 13, 254, 255, 256, 1_000_000, math.MaxInt32, math.MaxInt - 1, math.MaxInt}
	for _, parts := range []int{2, 3, 4, 5, 6, 7, 8, 16, 64} {
		end := math.MaxInt / parts
		list = append(list, end-1, end, end+1)
	}
	return list
}

// noThreads are what isn't among so many threads.
func noThreads(threads int) []int {
	return []int{threads, threads + 1, 6, 7, 8, 12, 64, math.MaxInt32, math.MaxInt - 1, math.MaxInt, -1, -2, -5, -6, -7, -64, math.MinInt + 1, math.MinInt}
}

// waits are how long may be waited: from 1 to 64, as the program has it, and what may be handed in beside that.
func waits() []int {
	return []int{1, 2, 3, 8, 63, 64, 65, 999_998, 999_999, 1_000_000, math.MaxInt, 0, -1, -2, -64, math.MinInt}
}

// counts are numbers of times, and what each is behind one more.
func counts() [][2]int {
	return [][2]int{
		{0, 1}, {1, 2}, {2, 3}, {3, 4}, {62, 63}, {63, 64}, {64, 65}, {65, 66}, {1000, 1001},
		{999_998, 999_999}, {999_999, top}, {1_000_000, top}, {1_000_001, top}, {math.MaxInt - 1, top}, {math.MaxInt, top},
		{-1, 0}, {-2, -1}, {-3, -2}, {-64, -63}, {-1_000_000, -999_999}, {-1_000_001, -1_000_000},
		{math.MinInt32, math.MinInt32 + 1}, {math.MinInt + 1, math.MinInt + 2}, {math.MinInt, math.MinInt + 1},
	}
}

// none is the sight of a gate without a senior.
func none() gate.Sight { return gate.Sight{} }

// some is the sight of a senior.
func some(stamp, thread, pulse int) gate.Sight {
	return gate.Sight{Some: true, Stamp: stamp, Thread: thread, Pulse: pulse}
}

// of is a gate of so many threads, with which a test can go on.
func of(t *testing.T, threads int) *gate.Gate {
	t.Helper()
	g, e := gate.New(threads)
	if g == nil || e != api.OK {
		t.Fatalf("New(%d): a gate: %v, error %d", threads, g != nil, e)
	}
	return g
}

// under is a gate of so many threads, with a senior.
func under(t *testing.T, threads, stamp, thread int) *gate.Gate {
	t.Helper()
	g := of(t, threads)
	checkSwap(t, g, none(), stamp, thread, true)
	checkSee(t, g, some(stamp, thread, 0))
	return g
}

// checkSee looks twice, since looking mustn't change anything.
func checkSee(t *testing.T, g *gate.Gate, want gate.Sight) {
	t.Helper()
	for range 2 {
		if x := g.See(); x != want {
			t.Errorf("See: %+v, not %+v", x, want)
		}
	}
}

// checkSwap swaps, and asks whether it was.
func checkSwap(t *testing.T, g *gate.Gate, x gate.Sight, stamp, thread int, want bool) {
	t.Helper()
	if did := g.Swap(x, stamp, thread); did != want {
		t.Errorf("Swap(%+v, %d, %d): %v", x, stamp, thread, did)
	}
}

// checkLeave leaves, and asks whether it was.
func checkLeave(t *testing.T, g *gate.Gate, stamp, thread int, want bool) {
	t.Helper()
	if did := g.Leave(stamp, thread); did != want {
		t.Errorf("Leave(%d, %d): %v", stamp, thread, did)
	}
}

// checkBeat beats, and asks for what is answered.
func checkBeat(t *testing.T, g *gate.Gate, thread int, want api.Errno) {
	t.Helper()
	if e := g.Beat(thread); e != want {
		t.Errorf("Beat(%d): error %d, not %d", thread, e, want)
	}
}

// checkPulses asks for all threads' pulses.
func checkPulses(t *testing.T, g *gate.Gate, want ...int) {
	t.Helper()
	for thread, pulse := range want {
		if n := g.Pulse(thread); n != pulse {
			t.Errorf("Pulse(%d): %d, not %d", thread, n, pulse)
		}
	}
}

// checkWhat asks for what is done, and the state behind it.
func checkWhat(t *testing.T, s choice.State, x gate.Sight, stamp, wait int, troubled bool, want int, behind choice.State) {
	t.Helper()
	does, got := gate.What(s, x, stamp, wait, troubled)
	if does != want || got != behind {
		t.Errorf("What(%+v, %+v, %d, %d, %v): %d, %+v, not %d, %+v", s, x, stamp, wait, troubled, does, got, want, behind)
	}
}

// The chapter's example.
func TestExample(t *testing.T) {
	g := of(t, 2)
	x := g.See()
	if x != none() {
		t.Errorf("See: %+v", x)
	}
	checkSwap(t, g, x, 5, 1, true)
	checkSee(t, g, some(5, 1, 0))
	met := choice.State{Foe: 5, Tries: 1, Looks: 1}
	checkWhat(t, choice.Fresh(), g.See(), 7, 8, false, gate.Stay, met)
	checkWhat(t, choice.Fresh(), g.See(), 7, 8, true, gate.Stay, met)
	checkWhat(t, choice.Fresh(), g.See(), 3, 8, true, gate.Claim, choice.Fresh())
	checkWhat(t, choice.Fresh(), g.See(), 3, 8, false, gate.Go, choice.Fresh())
	checkWhat(t, choice.Fresh(), g.See(), 5, 8, true, gate.Go, choice.Fresh())
}

// P10.2: what is done is numbered as the chapter says.
func TestNumbered(t *testing.T) {
	if gate.Claim != 1 || gate.Go != 2 || gate.Stay != 3 {
		t.Errorf("Claim %d, Go %d, Stay %d", gate.Claim, gate.Go, gate.Stay)
	}
}

// P10.1: of 1 to 6 threads there is a gate, without a senior, and with pulses of 0; of other numbers there is none.
func TestNew(t *testing.T) {
	for _, threads := range append(numbers(), 4) {
		g, e := gate.New(threads)
		if threads < 1 || threads > 6 {
			if g != nil || e != api.ErrRange {
				t.Errorf("New(%d): a gate: %v, error %d", threads, g != nil, e)
			}
			continue
		}
		if g == nil || e != api.OK {
			t.Errorf("New(%d): a gate: %v, error %d", threads, g != nil, e)
			continue
		}
		checkSee(t, g, none())
		checkPulses(t, g, make([]int, 9)...)
		for thread := range threads {
			checkLeave(t, g, 0, thread, false)
			checkBeat(t, g, thread, api.OK)
		}
		checkBeat(t, g, threads, api.ErrNone)
	}
}

// P10.1: where there is none, each stamp that isn't below 0 becomes the senior, with each thread that there is, and is seen as it is.
func TestSwapFromNone(t *testing.T) {
	for threads := 1; threads <= 6; threads++ {
		for thread := range threads {
			for _, stamp := range stamps() {
				g := under(t, threads, stamp, thread)
				checkLeave(t, g, stamp, thread, true)
				checkSee(t, g, none())
			}
		}
	}
}

// P10.1: whoever is the senior, a swap by what is seen is done, to each stamp and thread, younger or elder or just the same one.
func TestSwapBySight(t *testing.T) {
	for _, from := range stamps() {
		for _, to := range stamps() {
			for _, threads := range [][2]int{{0, 0}, {0, 5}, {5, 0}, {2, 2}, {1, 4}, {4, 3}, {5, 5}} {
				g := under(t, 6, from, threads[0])
				checkSwap(t, g, g.See(), to, threads[1], true)
				checkSee(t, g, some(to, threads[1], 0))
				checkSwap(t, g, some(to, threads[1], 0), from, threads[0], true)
				checkSee(t, g, some(from, threads[0], 0))
			}
		}
	}
}

// P10.1: of all sights of a senior just the one that says it lets another one be.
func TestSwapByOneSightOnly(t *testing.T) {
	for _, has := range stamps() {
		for thread := range 6 {
			g := under(t, 6, has, thread)
			for _, says := range append(stamps(), -1, -2, -5, -6, -7, math.MinInt, math.MinInt+1) {
				for said := range 6 {
					right := says == has && said == thread
					checkSwap(t, g, some(says, said, 0), has, thread, right)
					checkLeave(t, g, says, said, right)
					if right {
						checkSwap(t, g, none(), has, thread, true)
					}
				}
			}
			checkSee(t, g, some(has, thread, 0))
		}
	}
}

// P10.1: a sight whose stamp, whose thread, or whose Some alone is another is refused, and the senior stays; one whose pulse alone is another is not.
func TestSwapByAnotherSight(t *testing.T) {
	for _, x := range []gate.Sight{
		some(4, 2, 1), some(6, 2, 1), some(0, 2, 1), some(-5, 2, 1), some(-1, 2, 1), some(math.MaxInt, 2, 1), some(math.MinInt, 2, 1),
		some(5, 1, 1), some(5, 3, 1), some(5, 0, 1), some(5, -1, 1), some(5, 4, 1), some(5, 6, 1), some(5, -2, 1), some(5, math.MaxInt, 1), some(5, math.MinInt, 1),
		some(4, 8, 1), some(6, -4, 1), some(2, 5, 1),
		{Stamp: 5, Thread: 2, Pulse: 1}, {Stamp: 5, Thread: 2}, {Pulse: 1}, none(), some(0, 0, 0), {Stamp: 5}, {Thread: 2},
	} {
		g := under(t, 4, 5, 2)
		g.Beat(2)
		checkSwap(t, g, x, 7, 1, false)
		checkSwap(t, g, x, 5, 2, false)
		checkSwap(t, g, x, 0, 0, false)
		checkSee(t, g, some(5, 2, 1))
	}
	for _, pulse := range numbers() {
		g := under(t, 4, 5, 2)
		g.Beat(2)
		checkSwap(t, g, some(5, 2, pulse), 7, 1, true)
		checkSee(t, g, some(7, 1, 0))
	}
}

// P10.1: where there is no senior, a sight of one is refused, and so is one without any, but with a stamp or a thread; a pulse plays no part.
func TestSwapWhereThereIsNone(t *testing.T) {
	for _, stamp := range numbers() {
		for _, thread := range append(numbers(), 4) {
			g := of(t, 6)
			checkSwap(t, g, some(stamp, thread, 0), 3, 1, false)
			if stamp != 0 || thread != 0 {
				checkSwap(t, g, gate.Sight{Stamp: stamp, Thread: thread}, 3, 1, false)
			}
			checkSee(t, g, none())
			checkSwap(t, g, gate.Sight{Pulse: stamp}, 3, 1, true)
			checkSee(t, g, some(3, 1, 0))
		}
	}
}

// P10.1: nobody becomes the senior with a stamp below 0, or with a thread that there isn't, whatever sight it swaps by; who is it stays, or nobody is.
func TestSwapToWhatIsNot(t *testing.T) {
	for threads := 1; threads <= 6; threads++ {
		g, free := under(t, threads, 5, threads-1), of(t, threads)
		for _, stamp := range numbers() {
			for _, thread := range append(noThreads(threads), 0, threads-1) {
				if stamp >= 0 && thread >= 0 && thread < threads {
					continue
				}
				checkSwap(t, g, some(5, threads-1, 0), stamp, thread, false)
				checkSwap(t, g, some(stamp, thread, 0), stamp, thread, false)
				checkSwap(t, g, some(stamp, thread, 0), 5, threads-1, false)
				checkSwap(t, g, none(), stamp, thread, false)
				checkLeave(t, g, stamp, thread, false)
				checkSwap(t, free, none(), stamp, thread, false)
				checkSwap(t, free, some(stamp, thread, 0), 5, 0, false)
				checkLeave(t, free, stamp, thread, false)
			}
		}
		checkSee(t, g, some(5, threads-1, 0))
		checkSee(t, free, none())
	}
}

// P10.1: the stamp 0 and the thread 0 are ones like others: that senior is somebody.
func TestStampZeroAndThreadZero(t *testing.T) {
	for _, q := range [][2]int{{0, 0}, {0, 3}, {7, 0}} {
		g := under(t, 4, q[0], q[1])
		checkSwap(t, g, none(), 9, 1, false)
		checkSwap(t, g, gate.Sight{Stamp: q[0], Thread: q[1]}, 9, 1, false)
		checkSee(t, g, some(q[0], q[1], 0))
		checkSwap(t, g, some(q[0], q[1], 0), 9, 1, true)
		checkSwap(t, g, some(9, 1, 0), q[0], q[1], true)
		checkSee(t, g, some(q[0], q[1], 0))
		checkLeave(t, g, q[0], q[1], true)
		checkLeave(t, g, q[0], q[1], false)
		checkSee(t, g, none())
	}
}

// P10.1: the senior leaves, once; nobody else lets it leave, and where there is none nobody leaves.
func TestLeave(t *testing.T) {
	for _, stamp := range stamps() {
		for thread := range 4 {
			g := under(t, 4, stamp, thread)
			g.Beat(thread)
			for _, other := range append(noThreads(4), 0, 1, 2, 3) {
				if other != thread {
					checkLeave(t, g, stamp, other, false)
				}
			}
			for _, other := range append(numbers(), stamp-1, stamp^1, -stamp-1) {
				if other != stamp {
					checkLeave(t, g, other, thread, false)
				}
			}
			checkSee(t, g, some(stamp, thread, 1))
			checkLeave(t, g, stamp, thread, true)
			checkSee(t, g, none())
			checkLeave(t, g, stamp, thread, false)
			checkLeave(t, g, 0, 0, false)
			checkSwap(t, g, some(stamp, thread, 1), stamp, thread, false)
			checkSwap(t, g, none(), 3, 1, true)
			checkLeave(t, g, 3, 1, true)
		}
	}
}

// P10.1: who isn't the senior any more neither leaves nor swaps by what it saw then.
func TestSeniorNoMore(t *testing.T) {
	g := under(t, 3, 9, 2)
	seen := g.See()
	checkSwap(t, g, seen, 4, 0, true)
	checkLeave(t, g, 9, 2, false)
	checkSwap(t, g, seen, 9, 2, false)
	checkSee(t, g, some(4, 0, 0))
	checkLeave(t, g, 4, 0, true)
	checkSwap(t, g, seen, 9, 2, false)
	checkSee(t, g, none())
	checkSwap(t, g, none(), 9, 2, true)
	checkSwap(t, g, seen, 4, 0, true)
}

// P10.1: of swaps that all have seen the same just one is done, the first one.
func TestOneSwaps(t *testing.T) {
	for first := range 6 {
		g := of(t, 6)
		for i := range 6 {
			thread := (first + i) % 6
			checkSwap(t, g, none(), 10+thread, thread, i == 0)
		}
		checkSee(t, g, some(10+first, first, 0))
		for i := range 6 {
			thread := (first + i) % 6
			checkSwap(t, g, some(10+first, first, 0), thread, thread, i == 0)
		}
		checkSee(t, g, some(first, first, 0))
	}
}

// P10.1: a beat makes that thread's pulse one more, and no other one's; of a thread that there isn't it does nothing.
func TestBeat(t *testing.T) {
	for threads := 1; threads <= 6; threads++ {
		g := of(t, threads)
		want := make([]int, threads)
		for i := range 40 {
			thread := i * i % threads
			want[thread]++
			checkBeat(t, g, thread, api.OK)
			checkPulses(t, g, want...)
			checkSee(t, g, none())
		}
		for _, thread := range noThreads(threads) {
			if thread >= 0 && thread < threads {
				continue
			}
			checkBeat(t, g, thread, api.ErrNone)
			if n := g.Pulse(thread); n != 0 {
				t.Errorf("Pulse(%d) of %d threads: %d", thread, threads, n)
			}
		}
		checkPulses(t, g, want...)
	}
}

// P10.1: the sight has the pulse of the senior's own thread, as it is now, be it of the steps ahead or behind.
func TestSightHasThePulse(t *testing.T) {
	g := of(t, 3)
	for range 4 {
		g.Beat(1)
	}
	g.Beat(2)
	checkSee(t, g, none())
	checkSwap(t, g, none(), 8, 1, true)
	checkSee(t, g, some(8, 1, 4))
	checkBeat(t, g, 1, api.OK)
	checkSee(t, g, some(8, 1, 5))
	checkBeat(t, g, 2, api.OK)
	checkBeat(t, g, 0, api.OK)
	checkBeat(t, g, 3, api.ErrNone)
	checkSee(t, g, some(8, 1, 5))
	checkSwap(t, g, some(8, 1, 4), 8, 2, true)
	checkSee(t, g, some(8, 2, 2))
	checkLeave(t, g, 8, 2, true)
	checkSee(t, g, none())
	checkPulses(t, g, 1, 5, 2)
}

// P10.1: gates are apart.
func TestGatesApart(t *testing.T) {
	g, other := under(t, 2, 5, 1), of(t, 2)
	g.Beat(1)
	checkSee(t, other, none())
	checkPulses(t, other, 0, 0)
	checkSwap(t, other, none(), 3, 0, true)
	checkLeave(t, other, 5, 1, false)
	checkLeave(t, other, 3, 0, true)
	checkSee(t, g, some(5, 1, 1))
}

// P10.1: a nil gate has no senior and no threads, whatever it is asked.
func TestNilGate(t *testing.T) {
	var g *gate.Gate
	for _, n := range numbers() {
		for _, thread := range numbers() {
			checkSwap(t, g, none(), n, thread, false)
			checkSwap(t, g, some(n, thread, 0), n, thread, false)
			checkSwap(t, g, gate.Sight{Stamp: n, Thread: thread}, 0, 0, false)
			checkLeave(t, g, n, thread, false)
		}
		checkBeat(t, g, n, api.ErrNone)
		if p := g.Pulse(n); p != 0 {
			t.Errorf("Pulse(%d): %d", n, p)
		}
		checkSee(t, g, none())
	}
}

// plain is a gate of two threads, written down as it is.
type plain struct {
	senior gate.Sight
	pulses [2]int
}

// see is the sight.
func (p *plain) see() gate.Sight {
	x := p.senior
	if x.Some {
		x.Pulse = p.pulses[x.Thread]
	}
	return x
}

// swap lets one be the senior, or nobody, if it is what is said.
func (p *plain) swap(x, to gate.Sight) bool {
	x.Pulse = 0
	if x != p.senior {
		return false
	}
	p.senior = to
	return true
}

// P10.1: all short rows of calls answer what a gate that is written down does.
func TestRows(t *testing.T) {
	const great = math.MaxInt - 3
	seniors := []gate.Sight{some(0, 0, 0), some(0, 1, 0), some(6, 1, 0), some(great, 0, 0), some(great, 1, 0), some(great/6+6, 1, 0)}
	type call func(g *gate.Gate, p *plain) (bool, bool)
	var calls []call
	for _, to := range seniors {
		calls = append(calls,
			func(g *gate.Gate, p *plain) (bool, bool) {
				return g.Swap(none(), to.Stamp, to.Thread), p.swap(none(), to)
			},
			func(g *gate.Gate, p *plain) (bool, bool) {
				return g.Swap(g.See(), to.Stamp, to.Thread), p.swap(p.see(), to)
			},
			func(g *gate.Gate, p *plain) (bool, bool) { return g.Leave(to.Stamp, to.Thread), p.swap(to, none()) },
			func(g *gate.Gate, p *plain) (bool, bool) { return g.Swap(to, 9, 0), p.swap(to, some(9, 0, 0)) },
		)
	}
	calls = append(calls, func(g *gate.Gate, p *plain) (bool, bool) {
		p.pulses[1]++
		return g.Beat(1) == api.OK, true
	})
	n := len(calls)
	for row := range n * n * n * n {
		g, p := of(t, 2), &plain{}
		for rest, i := row, 0; i < 4; rest, i = rest/n, i+1 {
			if got, want := calls[rest%n](g, p); got != want || g.See() != p.see() || g.Pulse(0) != p.pulses[0] || g.Pulse(1) != p.pulses[1] {
				t.Fatalf("row %d, place %d: %v, not %v; %+v, not %+v", row, i, got, want, g.See(), p.see())
			}
		}
	}
}

// seen is a state that has met the senior of the stamp 7 so many times, and looked at the pulse 9 so many times.
func seen(tries, looks int) choice.State {
	return choice.State{Foe: 7, Tries: tries, Yields: 2, Pulse: 9, Looks: looks}
}

// either is what is done by an elder senior's pulse.
func either(stands bool) int {
	if stands {
		return gate.Go
	}
	return gate.Stay
}

// claims is what is done where there is no elder senior.
func claims(troubled bool) int {
	if troubled {
		return gate.Claim
	}
	return gate.Go
}

// P10.2, P10.3: where there is no senior, who is troubled claims, and who isn't goes; the state stays as it is.
func TestWhatOfNone(t *testing.T) {
	for _, n := range numbers() {
		for _, wait := range waits() {
			for _, s := range []choice.State{choice.Fresh(), seen(n, n), seen(wait, wait), {Foe: 0, Looks: n}} {
				checkWhat(t, s, none(), n, wait, true, gate.Claim, s)
				checkWhat(t, s, none(), n, wait, false, gate.Go, s)
			}
			// No gate tells these: none is there, whatever stamp, thread and pulse stand beside that.
			odd := gate.Sight{Stamp: 7, Thread: wait, Pulse: 9}
			checkWhat(t, seen(3, 70), odd, n, wait, true, gate.Claim, seen(3, 70))
			checkWhat(t, seen(3, 70), odd, n, wait, false, gate.Go, seen(3, 70))
		}
	}
}

// P10.2, P10.3: who is the elder one, by one or by far, claims if it is troubled, and else goes, whatever pulses were seen.
func TestWhatOfAYounger(t *testing.T) {
	for _, q := range [][2]int{
		{6, 7}, {0, 7}, {0, 1}, {254, 255}, {0, 255}, {-1, 0}, {-2, -1}, {-7, 7}, {math.MaxInt - 1, math.MaxInt},
		{math.MinInt, math.MaxInt}, {-1, math.MaxInt}, {math.MinInt, 0}, {math.MinInt, math.MinInt + 1},
	} {
		for _, pulse := range []int{9, 10, 0, -1, math.MaxInt, math.MinInt} {
			for _, wait := range waits() {
				s := choice.State{Foe: q[1], Tries: 3, Yields: 2, Pulse: 9, Looks: wait}
				checkWhat(t, s, some(q[1], 1, pulse), q[0], wait, true, gate.Claim, s)
				checkWhat(t, s, some(q[1], 1, pulse), q[0], wait, false, gate.Go, s)
			}
		}
	}
}

// P10.2, P10.3: who has the senior's stamp goes, troubled or not, whatever pulses were seen: it needn't claim.
func TestWhatOfTheSame(t *testing.T) {
	for _, n := range numbers() {
		for _, pulse := range []int{9, 10, 0, -1, math.MaxInt, math.MinInt} {
			for _, wait := range waits() {
				for _, troubled := range []bool{false, true} {
					s := choice.State{Foe: n, Tries: 3, Yields: 2, Pulse: 9, Looks: wait}
					checkWhat(t, s, some(n, 1, pulse), n, wait, troubled, gate.Go, s)
				}
			}
		}
	}
}

// P10.2: my stamp one below the senior's, just that, and one above, each troubled and not.
func TestWhatByStamp(t *testing.T) {
	for _, stamp := range []int{1, 2, 7, 254, 1_000_000, 0, -1, -7, math.MaxInt - 1, math.MinInt + 1} {
		for _, troubled := range []bool{false, true} {
			s := choice.State{Foe: stamp, Tries: 3, Yields: 2, Pulse: 9, Looks: 4}
			behind := choice.State{Foe: stamp, Tries: 4, Yields: 2, Pulse: 9, Looks: 5}
			x := some(stamp, 3, 9)
			checkWhat(t, s, x, stamp-1, 5, troubled, claims(troubled), s)
			checkWhat(t, s, x, stamp, 5, troubled, gate.Go, s)
			checkWhat(t, s, x, stamp+1, 5, troubled, gate.Stay, behind)
			checkWhat(t, s, x, stamp+1, 4, troubled, gate.Go, behind)
		}
	}
}

// elders are my stamp and an elder senior's.
func elders() [][2]int {
	return [][2]int{{8, 7}, {9, 7}, {255, 7}, {math.MaxInt, 7}}
}

// P10.2: the same pulse of an elder senior again is one look more, at most 1,000,000; it stands where that is more than may be waited.
func TestWhatOfTheSamePulse(t *testing.T) {
	for _, st := range elders() {
		for _, c := range counts() {
			for _, wait := range append(waits(), c[1]-1, c[1], c[1]+1) {
				for _, troubled := range []bool{false, true} {
					checkWhat(t, seen(3, c[0]), some(st[1], 2, 9), st[0], wait, troubled, either(c[1] > wait), seen(4, c[1]))
				}
			}
			checkWhat(t, seen(c[0], 1), some(st[1], 2, 9), st[0], 64, true, gate.Stay, seen(c[1], 2))
		}
	}
}

// P10.2, P10.3: looks of wait - 1, wait and wait + 1 by now, written out: of a wait of 1, of 64 and between.
func TestWhatAtTheEdgesOfAWait(t *testing.T) {
	for _, wait := range []int{1, 2, 3, 8, 63, 64} {
		x := some(7, 0, 9)
		checkWhat(t, seen(3, 0), x, 8, wait, true, gate.Stay, seen(4, 1))
		checkWhat(t, seen(3, wait-1), x, 8, wait, true, gate.Stay, seen(4, wait))
		checkWhat(t, seen(3, wait), x, 8, wait, true, gate.Go, seen(4, wait+1))
		checkWhat(t, seen(3, wait+1), x, 8, wait, true, gate.Go, seen(4, wait+2))
		checkWhat(t, seen(3, wait+1), some(7, 0, 10), 8, wait, true, gate.Stay, choice.State{Foe: 7, Tries: 4, Yields: 2, Pulse: 10})
	}
}

// P10.2, P10.3: another pulse, further or not, is the one that is seen then, and not looked at again yet: it goes on.
func TestWhatOfAnotherPulse(t *testing.T) {
	for _, st := range elders() {
		for _, pulse := range []int{10, 8, 11, 0, 1, -1, -9, math.MaxInt, math.MinInt} {
			for _, looks := range numbers() {
				for _, wait := range []int{0, 1, 2, 8, 64, top, math.MaxInt, -1, math.MinInt} {
					behind := choice.State{Foe: 7, Tries: 4, Yields: 2, Pulse: pulse, Looks: 0}
					checkWhat(t, seen(3, looks), some(st[1], 2, pulse), st[0], wait, true, either(wait < 0), behind)
				}
			}
		}
	}
}

// P10.2: a senior of another stamp is another one: it is met for the first time, with its own pulse, and that is the first look; Yields stays.
func TestWhatOfAnotherSenior(t *testing.T) {
	for _, n := range fewer() {
		for _, pulse := range fewer() {
			for _, foe := range numbers() {
				if foe == 5 {
					continue
				}
				s := choice.State{Foe: foe, Tries: n, Yields: n, Pulse: pulse, Looks: n}
				behind := choice.State{Foe: 5, Tries: 1, Yields: n, Pulse: 9, Looks: 1}
				checkWhat(t, s, some(5, 2, 9), 8, 1, true, gate.Stay, behind)
				checkWhat(t, s, some(5, 2, 9), 8, 64, false, gate.Stay, behind)
				checkWhat(t, s, some(5, 2, 9), 8, 0, true, gate.Go, behind)
				checkWhat(t, s, some(5, 2, 9), 8, -1, false, gate.Go, behind)
			}
		}
	}
	first := choice.State{Foe: 0, Tries: 1, Pulse: 9, Looks: 1}
	checkWhat(t, choice.Fresh(), some(0, 0, 9), 1, 64, true, gate.Stay, first)
}

// P10.2: the senior is told apart by its stamp: its thread plays no part.
func TestWhatOfAnotherThread(t *testing.T) {
	for _, thread := range numbers() {
		checkWhat(t, seen(3, 1), some(7, thread, 9), 8, 8, true, gate.Stay, seen(4, 2))
		checkWhat(t, seen(3, 8), some(7, thread, 9), 8, 8, true, gate.Go, seen(4, 9))
		checkWhat(t, seen(3, 8), some(7, thread, 9), 7, 8, true, gate.Go, seen(3, 8))
		checkWhat(t, seen(3, 8), some(7, thread, 9), 6, 8, true, gate.Claim, seen(3, 8))
	}
}

// told is what the chapters say, of numbers in all.
func told(s choice.State, x gate.Sight, mine, wait int, troubled bool) (int, choice.State) {
	up := func(n int) int {
		if n >= top {
			return top
		}
		return n + 1
	}
	elder := x.Some && x.Stamp < mine
	if !elder {
		if troubled && !(x.Some && x.Stamp == mine) {
			return 1, s
		}
		return 2, s
	}
	if s.Foe != x.Stamp {
		s.Foe, s.Tries, s.Pulse, s.Looks = x.Stamp, 0, x.Pulse, 0
	}
	s.Tries = up(s.Tries)
	if s.Pulse != x.Pulse {
		s.Pulse, s.Looks = x.Pulse, 0
	} else {
		s.Looks = up(s.Looks)
	}
	if s.Looks > wait {
		return 2, s
	}
	return 3, s
}

// P10.2: of any numbers there is done what the document says, the same each time.
func TestAnyNumbers(t *testing.T) {
	for _, a := range numbers() {
		for _, b := range numbers() {
			for _, c := range numbers() {
				for i, q := range [][3]int{{a, b, c}, {b, a, a}, {c, c, b}, {b, b, 9}, {a, a, a}} {
					s := choice.State{Foe: b, Tries: a, Yields: c, Pulse: q[0], Looks: b}
					x := gate.Sight{Some: i != 1 || a > b, Stamp: q[1], Thread: c, Pulse: q[2]}
					want, behind := told(s, x, a, c, b > c)
					for range 2 {
						checkWhat(t, s, x, a, c, b > c, want, behind)
					}
				}
			}
		}
	}
}

// P10.3: nobody who sees a senior that is younger, or none, stays, whatever it remembers.
func TestNobodyStays(t *testing.T) {
	for _, mine := range numbers() {
		for _, stamp := range numbers() {
			for _, n := range fewer() {
				for _, x := range []gate.Sight{none(), some(stamp, 1, n)} {
					if x.Some && stamp <= mine {
						continue
					}
					s := choice.State{Foe: stamp, Tries: n, Pulse: n, Looks: n}
					if does, _ := gate.What(s, x, mine, 64, n > 0); does == gate.Stay {
						t.Errorf("%d sees %+v, and stays", mine, x)
					}
				}
			}
		}
	}
}

// P10.3: who sees an elder one whose pulse stands stays for as many looks as may be waited, and goes at the look behind that, and at each one from there on.
func TestWaitAndOneLooks(t *testing.T) {
	for _, st := range elders() {
		for wait := 1; wait <= 64; wait++ {
			s := choice.Fresh()
			for look := 1; look <= wait+5; look++ {
				does, behind := gate.What(s, some(st[1], 2, 9), st[0], wait, look%2 == 0)
				if s = behind; does != either(look >= wait+1) || s != (choice.State{Foe: 7, Tries: look, Pulse: 9, Looks: look}) {
					t.Errorf("stamps %v, wait %d, look %d: %d, %+v", st, wait, look, does, s)
				}
			}
		}
	}
}

// P10.3: who sees an elder one whose pulse goes on, if only at one look more than may be waited, stays without an end; when it stands, that takes wait looks behind the last one at which it went on.
func TestGoesOn(t *testing.T) {
	for _, wait := range []int{1, 2, 8, 64} {
		s, pulse := choice.Fresh(), 20
		// The meeting itself is a look at that pulse, a pulse that goes on later isn't.
		for look := range wait {
			checkWhat(t, s, some(7, 2, pulse), 8, wait, true, gate.Stay, choice.State{Foe: 7, Tries: look + 1, Pulse: pulse, Looks: look + 1})
			s = choice.State{Foe: 7, Tries: look + 1, Pulse: pulse, Looks: look + 1}
		}
		for range 50 {
			pulse++
			for looks := range wait + 1 {
				behind := choice.State{Foe: 7, Tries: s.Tries + 1, Pulse: pulse, Looks: looks}
				checkWhat(t, s, some(7, 2, pulse), 8, wait, true, gate.Stay, behind)
				s = behind
			}
		}
		behind := choice.State{Foe: 7, Tries: s.Tries + 1, Pulse: pulse, Looks: wait + 1}
		checkWhat(t, s, some(7, 2, pulse), 8, wait, true, gate.Go, behind)
	}
}

// P10.3: by a gate itself: who sees an elder senior stays as long as that beats, and goes when it doesn't; when it has left, it may claim, and it may claim ahead of a younger one.
func TestByAGate(t *testing.T) {
	const wait = 3
	g := under(t, 3, 4, 1)
	s := choice.Fresh()
	does := 0
	for range 100 {
		g.Beat(1)
		if does, s = gate.What(s, g.See(), 6, wait, true); does != gate.Stay {
			t.Fatalf("the elder one goes on: %d", does)
		}
	}
	looks := 0
	for does == gate.Stay && looks < 100 {
		does, s = gate.What(s, g.See(), 6, wait, true)
		looks++
	}
	// The last look ahead of these told that it went on, which is none yet of those that count.
	if does != gate.Go || looks != wait+1 {
		t.Errorf("it stands: %d, at look %d", does, looks)
	}
	checkLeave(t, g, 4, 1, true)
	if does, s = gate.What(s, g.See(), 6, wait, true); does != gate.Claim {
		t.Errorf("nobody is the senior: %d", does)
	}
	checkSwap(t, g, g.See(), 6, 2, true)
	if does, _ = gate.What(s, g.See(), 6, wait, true); does != gate.Go {
		t.Errorf("it is the senior: %d", does)
	}
	if does, _ = gate.What(choice.Fresh(), g.See(), 5, wait, true); does != gate.Claim {
		t.Errorf("an elder one, troubled: %d", does)
	}
}

// P10.3: looks are counted up to 1,000,000, and no further, so that who sees one pulse for good goes at each of them.
func TestStandsForGood(t *testing.T) {
	s := choice.Fresh()
	for i := range top + 5 {
		does, behind := gate.What(s, some(7, 1, 9), 8, 64, true)
		n := min(i+1, top)
		if s = behind; does != either(i+1 > 64) || s != (choice.State{Foe: 7, Tries: n, Pulse: 9, Looks: n}) {
			t.Fatalf("look %d: %d, %+v", i+1, does, s)
		}
	}
}
