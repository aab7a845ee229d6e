package attempt_test

import (
	"fmt"
	"math"
	"slices"
	"strconv"
	"strings"
	"testing"

	"quarrel/api"
	"quarrel/attempt"
	"quarrel/cells"
	"quarrel/choice"
	"quarrel/floor"
	"quarrel/gate"
	"quarrel/lang"
	"quarrel/reads"
)

// managers are all that there are.
func managers() []int { return []int{api.Polite, api.Karma, api.Stamp, api.Greedy} }

// numbers are ordinary ones, and the ends of what an int can be.
func numbers() []int {
	return []int{0, 1, 2, 3, 7, 8, 255, 4096, math.MaxInt32, 1 << 32, math.MaxInt - 1, math.MaxInt, -1, -2, -255, math.MinInt32, math.MinInt + 1, math.MinInt}
}

// ops are operations by their words: r0 w0 x0 read, write and release, =5 sets, +5 and -5 add.
func ops(words string) []api.Op {
	var l []api.Op
	for _, w := range strings.Fields(words) {
		n, err := strconv.Atoi(w[1:])
		if err != nil {
			panic(w)
		}
		l = append(l, map[byte]api.Op{
			'r': {Kind: api.Read, Obj: n}, 'w': {Kind: api.Write, Obj: n}, 'x': {Kind: api.Release, Obj: n},
			'=': {Kind: api.Set, Arg: int64(n)}, '+': {Kind: api.Add, Arg: int64(n)}, '-': {Kind: api.Add, Arg: int64(-n)},
		}[w[0]])
	}
	return l
}

// scene is a floor, which a test looks at from outside.
type scene struct {
	*testing.T
	*floor.Floor
}

// config is one by a manager, with room enough.
func config(manager, objects int) api.Config {
	return api.Config{Objects: objects, Threads: 3, Records: 200, Tickets: 9, Manager: manager, Wait: 8}
}

// on is a scene by a config.
func on(t *testing.T, c api.Config, draws []byte, first ...int64) *scene {
	t.Helper()
	f, e := floor.New(c, first, draws)
	if e != api.OK {
		t.Fatalf("New: error %d", e)
	}
	return &scene{t, f}
}

// by is a scene by a manager, of objects of these values: object i has the version 2i and the locator 2i + 1, and the next record is behind them.
func by(t *testing.T, manager int, first ...int64) *scene {
	t.Helper()
	return on(t, config(manager, len(first)), []byte{3}, first...)
}

// actor is an attempt, with what it was begun of.
type actor struct {
	*scene
	*attempt.Attempt
	thread, txn, no, id, stamp int
	memory                     *attempt.Memory
}

// descriptor is one more of them.
func (s *scene) descriptor(thread, txn, no, stamp, priority int) int {
	s.Helper()
	id, e := s.Table().Begin(thread, txn, no, stamp, priority)
	if e != api.OK {
		s.Fatalf("a descriptor: error %d", e)
	}
	return id
}

// actor is an attempt that there must be, with a descriptor of its own, by a memory.
func (s *scene) actor(thread, stamp, priority int, words string, m *attempt.Memory) *actor {
	s.Helper()
	id := s.descriptor(thread, 4, 9, stamp, priority)
	a, e := attempt.Begin(s.Floor, thread, 4, 9, id, stamp, ops(words), m)
	if a == nil || e != api.OK {
		s.Fatalf("Begin of %s: %v, error %d", words, a != nil, e)
	}
	return &actor{s, a, thread, 4, 9, id, stamp, m}
}

// begin is one by a fresh memory, whose stamp is one more than its thread's number, without priority.
func (s *scene) begin(thread int, words string) *actor {
	s.Helper()
	return s.actor(thread, thread+1, 0, words, attempt.Fresh())
}

// view is all that can be seen from outside, in words, by what it is of.
type view struct {
	of   map[string]string
	keys []string
}

// put puts what is seen of something.
func (v *view) put(key string, what ...any) {
	v.keys = append(v.keys, key)
	v.of[key] = strings.TrimSuffix(fmt.Sprintln(what...), "\n")
}

// state are a state's numbers.
func state(s choice.State) []any { return []any{s.Foe, s.Tries, s.Yields, s.Pulse, s.Looks} }

// view is what is seen now of the floor and of one attempt.
func (a *actor) view() *view {
	v := &view{of: map[string]string{}}
	a.viewFloor(v)
	m := a.memory
	v.put("foes", state(m.Foes)...)
	v.put("gate", state(m.Gate)...)
	v.put("troubled", m.Troubled)
	v.put("raised", m.Raised)
	v.put("sum", a.Sum())
	for obj := range a.Cells().Objects() {
		r, has := a.Set().Has(obj)
		v.put("reading "+strconv.Itoa(obj), r.Version, r.Val, has)
		o, is := a.Set().Mine(obj)
		v.put("own "+strconv.Itoa(obj), o.Locator, o.Version, o.Val, o.Claimed, is)
	}
	for i, e := range a.Trace() {
		v.put("event "+strconv.Itoa(i), a.event(e))
	}
	status, reason := a.Status()
	v.put("is", int(status), reason)
	return v
}

// viewFloor puts what is seen of the floor.
func (a *actor) viewFloor(v *view) {
	for at := range a.Arena().Len() {
		r, _ := a.Arena().At(at)
		n := strconv.Itoa(at)
		switch r.Kind {
		case api.Version:
			v.put("version "+n, r.Val)
		case api.Locator:
			v.put("locator "+n, r.Owner, r.Old, r.New)
		case api.Descriptor:
			v.put("status "+n, int(a.Table().Status(at)))
			v.put("priority "+n, a.Table().Priority(at))
			v.put("waiting "+n, a.Table().Waiting(at))
		}
	}
	for obj := range a.Cells().Objects() {
		at, _ := a.Cells().Load(obj)
		v.put("cell "+strconv.Itoa(obj), at)
	}
	x := a.Gate().See()
	v.put("senior", x.Some, x.Stamp, x.Thread)
	v.put("values", a.Values())
}

// event is one in words: whole, if it isn't just of its attempt and what the kind names.
func (a *actor) event(e api.Event) string {
	rest := e
	words := map[int]func() string{
		api.EvRead:    func() string { rest.Obj, rest.Val = 0, 0; return fmt.Sprint("read ", e.Obj, " ", e.Val) },
		api.EvWrite:   func() string { rest.Obj, rest.Val = 0, 0; return fmt.Sprint("write ", e.Obj, " ", e.Val) },
		api.EvRelease: func() string { rest.Obj = 0; return fmt.Sprint("release ", e.Obj) },
		api.EvCommit:  func() string { return "commit" },
		api.EvAbort:   func() string { rest.Reason = 0; return fmt.Sprint("abort ", e.Reason) },
	}[e.Kind]
	if words == nil {
		return fmt.Sprintf("%+v", e)
	}
	told := words()
	if rest != (api.Event{Kind: e.Kind, Thread: a.thread, Txn: a.txn, Attempt: a.no}) {
		return fmt.Sprintf("%+v", e)
	}
	return told
}

// against is what is other than before, in words.
func (v *view) against(before *view) string {
	var l []string
	for _, key := range v.keys {
		was, there := before.of[key]
		if there && was == v.of[key] {
			continue
		}
		// What a descriptor has at first, a test put there.
		if strings.HasPrefix(key, "event") {
			l = append(l, v.of[key])
		} else {
			l = append(l, key+": "+v.of[key])
		}
	}
	for _, key := range before.keys {
		if _, there := v.of[key]; !there {
			l = append(l, "no "+key)
		}
	}
	if len(l) == 0 {
		return "-"
	}
	return strings.Join(l, ", ")
}

// step makes an attempt's next step, and tells what it changed.
func (a *actor) step() string {
	a.Helper()
	before, made := a.view(), a.Steps()
	if !a.Step() {
		return "no step"
	}
	if n := a.Steps(); n != made+1 {
		a.Errorf("Steps: %d behind %d", n, made)
	}
	return a.view().against(before)
}

// makes makes so many steps as are told, and asks for what each of them changes; some are left to make then, or none.
func (a *actor) makes(want ...string) {
	a.Helper()
	for i, w := range want {
		if got := a.step(); got != w {
			a.Fatalf("the step %d (number %d):\n%s\nnot\n%s", i, a.Steps(), got, w)
		}
	}
}

// ends makes the last steps, asks for what they change, and then that there are no more.
func (a *actor) ends(want ...string) {
	a.Helper()
	a.makes(want...)
	a.ended()
}

// ended asks an attempt that ended to make no more steps.
func (a *actor) ended() {
	a.Helper()
	before, made := a.view(), a.Steps()
	for range 3 {
		if a.Step() {
			a.Fatalf("a step behind the last one: %s", a.view().against(before))
		}
	}
	if told := a.view().against(before); told != "-" || a.Steps() != made {
		a.Errorf("no step, but %s, %d steps", told, a.Steps())
	}
	if status, _ := a.Status(); status == api.Active {
		a.Error("no step, but open")
	}
}

// quiet makes so many steps, whatever they change.
func (a *actor) quiet(n int) *actor {
	a.Helper()
	for range n {
		if !a.Step() {
			a.Fatal("no step")
		}
	}
	return a
}

// run makes all steps, and tells how many.
func (a *actor) run() int {
	a.Helper()
	n := 0
	for a.Step() {
		if n++; n > 5000 {
			a.Fatal("it doesn't end")
		}
	}
	return n
}

// is asks how far an attempt is.
func (a *actor) is(status api.Status, reason int) {
	a.Helper()
	if s, r := a.Status(); s != status || r != reason {
		a.Errorf("Status: %d, %d, not %d, %d", s, r, status, reason)
	}
}

// turn turns a descriptor's status from outside.
func (s *scene) turn(id int, to api.Status) {
	s.Helper()
	if !s.Table().Turn(id, to) {
		s.Fatalf("Turn(%d, %d): false", id, to)
	}
}

// commits lets an attempt of another thread, which there isn't at hand, write a value and commit.
func (s *scene) commits(obj int, value int64) {
	s.Helper()
	id := s.descriptor(2, 5, 1, 90, 0)
	s.holds(id, obj, value)
	s.turn(id, api.Committed)
}

// holds lets a descriptor own an object, which becomes the value when it commits.
func (s *scene) holds(id, obj int, value int64) {
	s.Helper()
	at, _ := s.Cells().Load(obj)
	l, e := s.Cells().Locator(at)
	if e != api.OK {
		s.Fatalf("Locator: error %d", e)
	}
	v, e := s.Cells().Version(value)
	if e != api.OK {
		s.Fatalf("Version: error %d", e)
	}
	n, e := s.Cells().Build(id, cells.Resolve(l, s.Table().Status(l.Owner)), v)
	if e != api.OK || !s.Cells().Swap(obj, at, n) {
		s.Fatalf("Build: error %d, or no swap", e)
	}
}

// values asks for the objects' values.
func (s *scene) values(want ...int64) {
	s.Helper()
	if l := s.Values(); !slices.Equal(l, want) {
		s.Errorf("Values: %v, not %v", l, want)
	}
}

// drew asks how often a thread drew, of draws that are a row of 0, 1, 2 and so on: that draw is the next one.
func (s *scene) drew(thread, want int) {
	s.Helper()
	if n := s.Draw(thread); n != want {
		s.Errorf("drawn %d times, not %d", n, want)
	}
}

// row are the draws 0, 1, 2 and so on.
func row(n int) []byte {
	var l []byte
	for i := range n {
		l = append(l, byte(i))
	}
	return l
}

// readings and owns ask for all that the set has.
func (a *actor) readings(want ...reads.Reading) {
	a.Helper()
	if l := a.Set().Readings(); !slices.Equal(l, want) {
		a.Errorf("Readings: %+v, not %+v", l, want)
	}
}

func (a *actor) owns(want ...reads.Own) {
	a.Helper()
	if l := a.Set().Owns(); !slices.Equal(l, want) {
		a.Errorf("Owns: %+v, not %+v", l, want)
	}
}

// senior lets one be the senior.
func (s *scene) senior(stamp, thread int) {
	s.Helper()
	if !s.Gate().Swap(s.Gate().See(), stamp, thread) {
		s.Fatal("Swap of the gate: false")
	}
}

// alone are the values that a transaction leaves alone.
func alone(t *testing.T, l []api.Op, first []int64) []int64 {
	t.Helper()
	values, e := lang.Alone(l, first)
	if e != api.OK {
		t.Fatalf("Alone: error %d", e)
	}
	return values
}

// sight is what is seen of the gate.
func (s *scene) sight() gate.Sight { return s.Gate().See() }
