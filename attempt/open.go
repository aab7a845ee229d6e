package attempt

import (
	"quarrel/api"
	"quarrel/cells"
	"quarrel/choice"
	"quarrel/gate"
	"quarrel/reads"
)

// nobody is the owner of a locator that no descriptor owns.
const nobody = -1

// claim is what an opening at the commit is for; the others are for an operation's kind, Read or Write.
const claim = 0

// opening is an object that is opened, and what is found and made for that.
type opening struct {
	kind, obj int
	// What the object's own one has as its value.
	val int64

	sight gate.Sight
	at    int     // the number of the locator that was loaded
	found api.Rec // that locator
	waits int     // how many steps are still to be waited

	old     int  // the version that the object has, whatever becomes of this attempt
	new     int  // the version that it has, if this attempt commits
	written bool // whether there is a version of the sum: opened anew, it is written once all the same
	built   int  // the number of the locator that is to be swapped in
}

// open makes the first step of an opening, or of one anew.
func (a *Attempt) open() step {
	if a.floor.Manager().Marks() {
		return a.gate()
	}
	return a.load()
}

// gate sees the senior, and tells what that asks for.
func (a *Attempt) gate() step {
	m := a.memory
	a.sight = a.floor.Gate().See()
	does, s := gate.What(m.Gate, a.sight, a.stamp, a.floor.Config().Wait, m.Troubled)
	m.Gate = s
	switch does {
	case gate.Claim:
		return a.lead
	case gate.Stay:
		return a.gate
	}
	return a.load
}

// lead lets it be the senior, if that is still as it was seen; the gate tells then whether it is.
func (a *Attempt) lead() step {
	a.floor.Gate().Swap(a.sight, a.stamp, a.thread)
	return a.gate
}

// load looks up the object's locator.
func (a *Attempt) load() step {
	objects := a.floor.Cells()
	a.at, _ = objects.Load(a.obj)
	a.found, _ = objects.Locator(a.at)
	switch a.found.Owner {
	case nobody:
		return a.resolved(a.found.New)
	case a.id:
		return a.owned()
	}
	return a.owner
}

// owner asks how far the locator's owner is: what was loaded resolves by that, even if the owner put another locator in its place since.
func (a *Attempt) owner() step {
	status := a.floor.Table().Status(a.found.Owner)
	if status == api.Active {
		return a.foe
	}
	return a.resolved(cells.Resolve(a.found, status))
}

// foe lets the manager decide what is done about the owner.
func (a *Attempt) foe() step {
	m, manager := a.memory, a.floor.Manager()
	d, s := manager.Decide(m.Foes, a.me(), a.him(), a.floor.Draw(a.thread), a.floor.Config().Wait)
	m.Foes, m.Troubled = s, true
	switch d.Kind {
	case choice.Yield:
		return a.quit(api.Self)
	case choice.Abort:
		return a.strike
	}
	a.waits = d.Steps
	if manager.Marks() {
		return a.mark
	}
	return a.wait
}

// me is how it is seen by the manager.
func (a *Attempt) me() choice.Side {
	return choice.Side{Id: a.id, Stamp: a.stamp, Priority: a.floor.Table().Priority(a.id)}
}

// him is how the owner is seen.
func (a *Attempt) him() choice.Side {
	table, id := a.floor.Table(), a.found.Owner
	r, _ := table.Rec(id)
	return choice.Side{
		Id: id, Stamp: r.Stamp, Priority: table.Priority(id),
		Pulse: a.floor.Gate().Pulse(r.Thread), Waiting: table.Waiting(id),
	}
}

// strike aborts the owner; where that ended already, the object is opened anew all the same.
func (a *Attempt) strike() step {
	a.floor.Table().Turn(a.found.Owner, api.Aborted)
	return a.open
}

// mark says that it is waiting.
func (a *Attempt) mark() step {
	a.floor.Table().Wait(a.id, true)
	return a.wait
}

// wait does nothing, for one step of those that were decided.
func (a *Attempt) wait() step {
	a.waits--
	switch {
	case a.waits > 0:
		return a.wait
	case a.floor.Manager().Marks():
		return a.unmark
	}
	return a.open
}

// unmark says that it is waiting no more.
func (a *Attempt) unmark() step {
	a.floor.Table().Wait(a.id, false)
	return a.open
}

// resolved tells what comes behind a locator of another one, or of nobody, that resolved to a version.
func (a *Attempt) resolved(version int) step {
	if a.kind == api.Read {
		return a.saw(version)
	}
	if r, has := a.set.Has(a.obj); has && r.Version != version {
		return a.quit(api.Invalid)
	}
	return a.take(version)
}

// owned tells what comes behind a locator of its own.
func (a *Attempt) owned() step {
	if a.kind == api.Read {
		return a.saw(a.found.New)
	}
	return a.take(a.found.Old)
}

// take tells by which step an object is made its own that had a version.
func (a *Attempt) take(old int) step {
	a.old = old
	switch {
	case a.kind == claim:
		a.new = old
	case !a.written:
		return a.version
	}
	return a.locator
}

// version writes the sum.
func (a *Attempt) version() step {
	n, e := a.floor.Cells().Version(a.val)
	if e != api.OK {
		return a.quit(api.Memory)
	}
	a.new, a.written = n, true
	return a.locator
}

// locator builds a locator of its own.
func (a *Attempt) locator() step {
	n, e := a.floor.Cells().Build(a.id, a.old, a.new)
	if e != api.OK {
		return a.quit(api.Memory)
	}
	a.built = n
	return a.swap
}

// swap swaps that locator in: the object is its own, unless another one was quicker.
func (a *Attempt) swap() step {
	if !a.floor.Cells().Swap(a.obj, a.at, a.built) {
		a.memory.Troubled = true
		return a.open
	}
	a.set.Put(reads.Own{Obj: a.obj, Locator: a.built, Version: a.new, Val: a.val, Claimed: a.kind == claim})
	if a.kind == claim {
		return a.commit
	}
	return a.opened()
}
