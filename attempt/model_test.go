package attempt_test

import (
	"iter"

	"quarrel/api"
	"quarrel/attempt"
	"quarrel/cells"
	"quarrel/choice"
	"quarrel/floor"
	"quarrel/gate"
	"quarrel/lang"
	"quarrel/reads"
)

// model is an attempt in the plainest way: the chapter's words from the first to the last, standing still behind each step.
type model struct {
	f                          *floor.Floor
	thread, txn, no, id, stamp int
	ops                        []api.Op
	m                          *attempt.Memory
	set                        *reads.Set
	sum                        int64
	status                     api.Status
	reason, steps              int
	next                       func() (bool, bool)
	stop                       func()
	step                       func()
}

// left is thrown where a test has done with an attempt that is open.
type left struct{}

// modelOf is one that made no step.
func modelOf(f *floor.Floor, thread, txn, no, id, stamp int, l []api.Op, m *attempt.Memory) *model {
	a := &model{f: f, thread: thread, txn: txn, no: no, id: id, stamp: stamp, ops: l, m: m, set: reads.New(), status: api.Active}
	a.next, a.stop = iter.Pull(func(yield func(bool) bool) {
		defer func() {
			if r := recover(); r != nil && r != any(left{}) {
				panic(r)
			}
		}()
		a.step = func() {
			if !yield(true) {
				panic(left{})
			}
		}
		a.goes()
	})
	return a
}

// Step makes a step.
func (a *model) Step() bool {
	_, made := a.next()
	if made {
		a.steps++
	}
	return made
}

// note notes an event.
func (a *model) note(e api.Event) {
	e.Thread, e.Txn, e.Attempt = a.thread, a.txn, a.no
	a.f.Note(e)
}

// end is a step in which it ends, aborted.
func (a *model) end(reason int) {
	a.status, a.reason = api.Aborted, reason
	a.note(api.Event{Kind: api.EvAbort, Reason: reason})
	a.step()
}

// aborts itself, for a reason.
func (a *model) aborts(reason int) {
	if !a.f.Table().Turn(a.id, api.Aborted) {
		reason = api.Enemy
	}
	a.end(reason)
}

// goes by its operations, and commits.
func (a *model) goes() {
	for _, o := range a.ops {
		own, is := a.set.Mine(o.Obj)
		reading, has := a.set.Has(o.Obj)
		switch {
		case o.Kind == api.Set || o.Kind == api.Add:
			a.sum = lang.Sum(o, a.sum)
			a.step()
		case o.Kind == api.Release:
			if a.set.Drop(o.Obj) {
				a.note(api.Event{Kind: api.EvRelease, Obj: o.Obj})
			}
			a.step()
		case o.Kind == api.Read && (is || has):
			a.sum = reading.Val
			if is {
				a.sum = own.Val
			}
			a.note(api.Event{Kind: api.EvRead, Obj: o.Obj, Val: a.sum})
			a.step()
		case o.Kind == api.Read:
			seen, ok := a.opens(o.Obj, false, nil)
			if !ok || !a.looks() {
				return
			}
			a.sum, _ = a.f.Cells().Value(seen)
			a.set.Add(reads.Reading{Obj: o.Obj, Version: seen, Val: a.sum})
			a.note(api.Event{Kind: api.EvRead, Obj: o.Obj, Val: a.sum})
			a.step()
		default:
			if _, ok := a.opens(o.Obj, true, nil); !ok || !a.looks() {
				return
			}
			a.note(api.Event{Kind: api.EvWrite, Obj: o.Obj, Val: a.sum})
			a.step()
		}
	}
	for _, r := range a.set.Unclaimed() {
		if _, ok := a.opens(r.Obj, true, &r); !ok {
			return
		}
	}
	if !a.f.Table().Turn(a.id, api.Committed) {
		a.end(api.Enemy)
		return
	}
	a.status = api.Committed
	a.note(api.Event{Kind: api.EvCommit})
	a.step()
}

// opens an object, to read it, to write it, or to claim a reading: the version that was seen, and whether it goes on.
func (a *model) opens(obj int, take bool, claimed *reads.Reading) (int, bool) {
	version := -1
	for {
		a.passes()
		at, _ := a.f.Cells().Load(obj)
		l, _ := a.f.Cells().Locator(at)
		a.step()
		resolved := l.New
		if l.Owner == a.id {
			if take {
				resolved = l.Old
			}
		} else if l.Owner != -1 {
			status := a.f.Table().Status(l.Owner)
			a.step()
			if status == api.Active {
				if a.meets(l.Owner) {
					continue
				}
				return 0, false
			}
			resolved = cells.Resolve(l, status)
		}
		if !take {
			return resolved, true
		}
		if r, has := a.set.Has(obj); has && l.Owner != a.id && r.Version != resolved {
			a.aborts(api.Invalid)
			return 0, false
		}
		val := a.sum
		if claimed != nil {
			version, val = resolved, claimed.Val
		} else if version < 0 {
			v, e := a.f.Cells().Version(a.sum)
			a.step()
			if e != api.OK {
				a.aborts(api.Memory)
				return 0, false
			}
			version = v
		}
		mine, e := a.f.Cells().Build(a.id, resolved, version)
		a.step()
		if e != api.OK {
			a.aborts(api.Memory)
			return 0, false
		}
		if a.f.Cells().Swap(obj, at, mine) {
			a.set.Put(reads.Own{Obj: obj, Locator: mine, Version: version, Val: val, Claimed: claimed != nil})
			a.step()
			return 0, true
		}
		a.m.Troubled = true
		a.step()
	}
}

// passes the gate, if there is one.
func (a *model) passes() {
	for a.f.Manager().Marks() {
		x := a.f.Gate().See()
		does, s := gate.What(a.m.Gate, x, a.stamp, a.f.Config().Wait, a.m.Troubled)
		a.m.Gate = s
		a.step()
		if does == gate.Go {
			return
		}
		if does == gate.Claim {
			a.f.Gate().Swap(x, a.stamp, a.thread)
			a.step()
		}
	}
}

// meets a foe: whether it opens anew.
func (a *model) meets(id int) bool {
	t := a.f.Table()
	r, _ := t.Rec(id)
	foe := choice.Side{Id: id, Stamp: r.Stamp, Priority: t.Priority(id), Waiting: t.Waiting(id), Pulse: a.f.Gate().Pulse(r.Thread)}
	me := choice.Side{Id: a.id, Stamp: a.stamp, Priority: t.Priority(a.id)}
	d, s := a.f.Manager().Decide(a.m.Foes, me, foe, a.f.Draw(a.thread), a.f.Config().Wait)
	a.m.Foes, a.m.Troubled = s, true
	a.step()
	marks := a.f.Manager().Marks()
	switch d.Kind {
	case choice.Abort:
		t.Turn(id, api.Aborted)
		a.step()
	case choice.Yield:
		a.aborts(api.Self)
		return false
	case choice.Wait:
		if marks {
			t.Wait(a.id, true)
			a.step()
		}
		for range d.Steps {
			a.step()
		}
		if marks {
			t.Wait(a.id, false)
			a.step()
		}
	}
	return true
}

// looks at all its readings, and whether it is alive: not alive, it ended. The step alive is made by who asks, if it goes on.
func (a *model) looks() bool {
	if a.f.Config().Manager == api.Karma {
		a.f.Table().Raise(a.id)
		a.m.Raised++
		a.step()
	}
	for _, r := range a.set.Unclaimed() {
		at, _ := a.f.Cells().Load(r.Obj)
		l, _ := a.f.Cells().Locator(at)
		a.step()
		status := api.Active
		if l.Owner != -1 {
			status = a.f.Table().Status(l.Owner)
			a.step()
		}
		if cells.Resolve(l, status) != r.Version {
			a.aborts(api.Invalid)
			return false
		}
	}
	if a.f.Table().Status(a.id) == api.Aborted {
		a.end(api.Enemy)
		return false
	}
	return true
}
