package thread_test

import (
	"fmt"
	"math"
	"slices"
	"strconv"
	"strings"
	"testing"

	"quarrel/api"
	"quarrel/cells"
	"quarrel/floor"
	"quarrel/gate"
	"quarrel/lang"
	"quarrel/thread"
)

// managers are all that there are.
func managers() []int { return []int{api.Polite, api.Karma, api.Stamp, api.Greedy} }

// numbers are ordinary ones, and the ends of what an int can be.
func numbers() []int {
	return []int{0, 1, 2, 3, 4, 5, 6, 7, 8, 255, 256, 4096, math.MaxInt32, 1 << 32, 1<<32 + 1, math.MaxInt - 1, math.MaxInt, -1, -2, -255, math.MinInt32, -1 << 32, math.MinInt + 1, math.MinInt}
}

// ops are operations by their words: r0 w0 x0 read, write and release, =5 sets, +5 and -5 add.
func ops(words string) []api.Op {
	var l []api.Op
	for _, w := range strings.Fields(words) {
		n, err := strconv.Atoi(w[1:])
		if err != nil {
			panic(w)
		}
		l = append(l, map[byte]api.Op{
			'r': {Kind: api.Read, Obj: n}, 'w': {Kind: api.Write, Obj: n}, 'x': {Kind: api.Release, Obj: n},
			'=': {Kind: api.Set, Arg: int64(n)}, '+': {Kind: api.Add, Arg: int64(n)}, '-': {Kind: api.Add, Arg: int64(-n)},
		}[w[0]])
	}
	return l
}

// txns are transactions, each by its operations' words.
func txns(words ...string) [][]api.Op {
	var all [][]api.Op
	for _, w := range words {
		all = append(all, ops(w))
	}
	return all
}

// scene is a floor, which a test looks at from outside.
type scene struct {
	*testing.T
	*floor.Floor
}

// config is one by a manager, with room and tickets enough.
func config(manager, objects int) api.Config {
	return api.Config{Objects: objects, Threads: 3, Records: 400, Tickets: 20, Manager: manager, Wait: 8}
}

// on is a scene by a config.
func on(t *testing.T, c api.Config, first ...int64) *scene {
	t.Helper()
	f, e := floor.New(c, first, []byte{3})
	if e != api.OK {
		t.Fatalf("a floor: error %d", e)
	}
	return &scene{t, f}
}

// by is a scene by a manager, of objects of these values: object i has the version 2i and the locator 2i + 1, and the next record is behind them.
func by(t *testing.T, manager int, first ...int64) *scene {
	t.Helper()
	return on(t, config(manager, len(first)), first...)
}

// left is a scene with so many records left, and so many tickets.
func left(t *testing.T, manager, records, tickets int, first ...int64) *scene {
	t.Helper()
	c := config(manager, len(first))
	c.Records, c.Tickets = 2*len(first)+records, tickets
	return on(t, c, first...)
}

// actor is a thread, and its number.
type actor struct {
	*scene
	*thread.Thread
	no int
}

// thread is one that there must be.
func (s *scene) thread(no int, words ...string) *actor {
	s.Helper()
	t, e := thread.New(s.Floor, no, txns(words...))
	if t == nil || e != api.OK {
		s.Fatalf("New(%d, %v): %v, error %d", no, words, t != nil, e)
	}
	return &actor{s, t, no}
}

// view is all that can be seen from outside, in words, by what it is of.
type view struct {
	of   map[string]string
	keys []string
}

// put puts what is seen of something.
func (v *view) put(key string, what ...any) {
	v.keys = append(v.keys, key)
	v.of[key] = strings.TrimSuffix(fmt.Sprintln(what...), "\n")
}

// is puts what is seen of something that is mostly as it was at first.
func (v *view) is(key string, what, first any) {
	if what != first {
		v.put(key, what)
	}
}

// view is what is seen now of the floor; of pulses nothing, since they change with each step.
func (s *scene) view() *view {
	v := &view{of: map[string]string{}}
	v.put("tickets", s.Tickets().Taken())
	for at := range s.Arena().Len() {
		r, _ := s.Arena().At(at)
		n := strconv.Itoa(at)
		switch r.Kind {
		case api.Version:
			v.put("version "+n, r.Val)
		case api.Locator:
			v.put("locator "+n, r.Owner, r.Old, r.New)
		case api.Descriptor:
			v.put("descriptor "+n, r.Thread, r.Txn, r.Attempt, r.Stamp)
			v.is("status "+n, int(s.Table().Status(at)), int(api.Active))
			v.is("priority "+n, s.Table().Priority(at), 0)
			v.is("waiting "+n, s.Table().Waiting(at), false)
		}
	}
	for obj := range s.Cells().Objects() {
		at, _ := s.Cells().Load(obj)
		v.put("cell "+strconv.Itoa(obj), at)
	}
	x := s.Gate().See()
	v.put("senior", x.Some, x.Stamp, x.Thread)
	v.put("values", s.Values())
	for i, e := range s.Trace() {
		v.put("event "+strconv.Itoa(i), told(e))
	}
	return v
}

// view is what is seen now of the floor and of the thread.
func (a *actor) view() *view {
	v := a.scene.view()
	v.put("txn", a.Txn())
	v.put("try", a.Try())
	v.put("commits", a.Commits())
	v.put("done", a.Done())
	return v
}

// told is an event in words, with its thread, transaction and attempt: whole, if it isn't just what its kind names.
func told(e api.Event) string {
	name := map[int]string{
		api.EvBegin: "begin", api.EvRead: "read", api.EvWrite: "write", api.EvRelease: "release",
		api.EvCommit: "commit", api.EvAbort: "abort", api.EvRefuse: "refuse",
	}[e.Kind]
	text, rest := fmt.Sprintf("%s %d.%d.%d", name, e.Thread, e.Txn, e.Attempt), e
	switch e.Kind {
	case api.EvBegin:
		text, rest.Val = fmt.Sprint(text, " ", e.Val), 0
	case api.EvRead, api.EvWrite:
		text, rest.Obj, rest.Val = fmt.Sprint(text, " ", e.Obj, " ", e.Val), 0, 0
	case api.EvRelease:
		text, rest.Obj = fmt.Sprint(text, " ", e.Obj), 0
	case api.EvAbort, api.EvRefuse:
		text, rest.Reason = fmt.Sprint(text, " ", e.Reason), 0
	}
	if rest.Obj != 0 || rest.Val != 0 || rest.Reason != 0 {
		return fmt.Sprintf("%+v", e)
	}
	return text
}

// against is what is other than before, in words.
func (v *view) against(before *view) string {
	var l []string
	for _, key := range v.keys {
		was, there := before.of[key]
		switch {
		case there && was == v.of[key]:
		case strings.HasPrefix(key, "event"):
			l = append(l, v.of[key])
		default:
			l = append(l, key+": "+v.of[key])
		}
	}
	for _, key := range before.keys {
		if _, there := v.of[key]; !there {
			l = append(l, "no "+key)
		}
	}
	if len(l) == 0 {
		return "-"
	}
	return strings.Join(l, ", ")
}

// pulses are those of all threads.
func (s *scene) pulses() []int {
	var l []int
	for no := range s.Config().Threads {
		l = append(l, s.Gate().Pulse(no))
	}
	return l
}

// step makes a thread's next step, and tells what it changed; each makes its pulse one more, and no other one's.
func (a *actor) step() string {
	a.Helper()
	before, made, pulses := a.view(), a.Steps(), a.pulses()
	if a.Done() || !a.Step() {
		return "no step"
	}
	if n := a.Steps(); n != made+1 {
		a.Errorf("Steps: %d behind %d", n, made)
	}
	pulses[a.no]++
	if l := a.pulses(); !slices.Equal(l, pulses) {
		a.Errorf("pulses: %v, not %v", l, pulses)
	}
	return a.view().against(before)
}

// makes makes so many steps as are told, and asks for what each of them changes.
func (a *actor) makes(want ...string) {
	a.Helper()
	for i, w := range want {
		if got := a.step(); got != w {
			a.Fatalf("the step %d (number %d):\n%s\nnot\n%s", i, a.Steps(), got, w)
		}
	}
}

// ends makes the last steps, asks for what they change, and then that there are no more.
func (a *actor) ends(want ...string) {
	a.Helper()
	a.makes(want...)
	a.ended()
}

// ended asks a thread that is done to make no more steps, and that its pulse stands.
func (a *actor) ended() {
	a.Helper()
	before, made, pulses := a.view(), a.Steps(), a.pulses()
	for range 3 {
		if a.Step() {
			a.Fatalf("a step behind the last one: %s", a.view().against(before))
		}
	}
	if told := a.view().against(before); told != "-" || a.Steps() != made || !slices.Equal(a.pulses(), pulses) {
		a.Errorf("no step, but %s, %d steps, pulses %v", told, a.Steps(), a.pulses())
	}
	if !a.Done() {
		a.Error("no step, but not done")
	}
}

// at asks for what a thread tells of itself.
func (a *actor) at(txn, try, commits int, done bool) {
	a.Helper()
	if a.Txn() != txn || a.Try() != try || a.Commits() != commits || a.Done() != done {
		a.Errorf("Txn: %d, Try: %d, Commits: %d, Done: %v, not %d, %d, %d, %v", a.Txn(), a.Try(), a.Commits(), a.Done(), txn, try, commits, done)
	}
}

// quiet makes so many steps, whatever they change.
func (a *actor) quiet(n int) {
	a.Helper()
	for range n {
		if !a.Step() {
			a.Fatal("no step")
		}
	}
}

// run makes all steps, and tells how many.
func (a *actor) run() int {
	a.Helper()
	n := 0
	for a.Step() {
		if n++; n > 20_000 {
			a.Fatal("it doesn't end")
		}
	}
	return n
}

// till makes steps till an event is noted.
func (a *actor) till(event string) {
	a.Helper()
	for n := 0; ; n++ {
		if n > 1000 {
			a.Fatalf("no %s", event)
		}
		noted := len(a.Trace())
		a.quiet(1)
		if l := a.Trace(); len(l) > noted && told(l[len(l)-1]) == event {
			return
		}
	}
}

// mine is the descriptor of a thread that began last.
func (a *actor) mine() int {
	a.Helper()
	for at := a.Arena().Len() - 1; at >= 0; at-- {
		if r, _ := a.Arena().At(at); r.Kind == api.Descriptor && r.Thread == a.no {
			return at
		}
	}
	a.Fatal("no descriptor")
	return 0
}

// struck turns the attempt at hand to Aborted from outside.
func (a *actor) struck() {
	a.Helper()
	if !a.Table().Turn(a.mine(), api.Aborted) {
		a.Fatal("Turn: false")
	}
}

// foe is a descriptor of another thread, with a stamp and a priority, that is Active, and holds an object, which becomes 60.
func (s *scene) foe(thread, stamp, priority, obj int) int {
	s.Helper()
	id, e := s.Table().Begin(thread, 0, 1, stamp, priority)
	if e != api.OK {
		s.Fatalf("a descriptor: error %d", e)
	}
	at, _ := s.Cells().Load(obj)
	l, _ := s.Cells().Locator(at)
	v, _ := s.Cells().Version(60)
	n, e := s.Cells().Build(id, cells.Resolve(l, s.Table().Status(l.Owner)), v)
	if e != api.OK || !s.Cells().Swap(obj, at, n) {
		s.Fatalf("Build: error %d, or no swap", e)
	}
	return id
}

// senior lets one be the senior.
func (s *scene) senior(stamp, thread int) {
	s.Helper()
	if !s.Gate().Swap(s.Gate().See(), stamp, thread) {
		s.Fatal("Swap of the gate: false")
	}
}

// sees asks for who the senior is, or that there is none.
func (s *scene) sees(some bool, stamp, thread int) {
	s.Helper()
	x := s.Gate().See()
	x.Pulse = 0
	if x != (gate.Sight{Some: some, Stamp: stamp, Thread: thread}) {
		s.Errorf("See: %+v, not %v, %d, %d", x, some, stamp, thread)
	}
}

// story asks for all events, in words.
func (s *scene) story(want ...string) {
	s.Helper()
	var l []string
	for _, e := range s.Trace() {
		l = append(l, told(e))
	}
	if !slices.Equal(l, want) {
		s.Errorf("the trace:\n%s\nnot\n%s", strings.Join(l, "\n"), strings.Join(want, "\n"))
	}
}

// values asks for the objects' values.
func (s *scene) values(want ...int64) {
	s.Helper()
	if l := s.Values(); !slices.Equal(l, want) {
		s.Errorf("Values: %v, not %v", l, want)
	}
}

// alone are the values that transactions leave, one behind the other, alone.
func alone(t *testing.T, all [][]api.Op, first []int64) []int64 {
	t.Helper()
	values := first
	for _, l := range all {
		next, e := lang.Alone(l, values)
		if e != api.OK {
			t.Fatalf("Alone of %v: error %d", l, e)
		}
		values = next
	}
	return values
}

// dashes are so many steps that change nothing.
func dashes(n int) []string { return slices.Repeat([]string{"-"}, n) }
