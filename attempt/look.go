package attempt

import (
	"quarrel/api"
	"quarrel/cells"
	"quarrel/reads"
)

// looking is what is looked at again behind an object that was opened.
type looking struct {
	seen    int             // the version of the object that a Read opened
	left    []reads.Reading // the readings that are still to be looked at, the first one being looked at
	watched api.Rec         // the locator of that one's object
}

// saw tells what comes behind a version that a Read saw.
func (a *Attempt) saw(version int) step {
	a.seen = version
	return a.opened()
}

// opened tells what comes behind an object that an operation opened.
func (a *Attempt) opened() step {
	if a.floor.Config().Manager == api.Karma {
		return a.raise
	}
	return a.review
}

// raise makes its own priority one more; that it tried is what the transaction remembers.
func (a *Attempt) raise() step {
	a.floor.Table().Raise(a.id)
	a.memory.Raised++
	return a.review
}

// review looks at the first of all its readings.
func (a *Attempt) review() step {
	a.left = a.set.Unclaimed()
	return a.look()
}

// look looks at the next reading, or, behind the last one, whether the attempt is alive.
func (a *Attempt) look() step {
	if len(a.left) == 0 {
		return a.alive()
	}
	objects := a.floor.Cells()
	at, _ := objects.Load(a.left[0].Obj)
	a.watched, _ = objects.Locator(at)
	if a.watched.Owner != nobody {
		return a.lookOwner
	}
	return a.looked(a.watched.New)
}

// lookOwner asks how far the owner is of that reading's object.
func (a *Attempt) lookOwner() step {
	return a.looked(cells.Resolve(a.watched, a.floor.Table().Status(a.watched.Owner)))
}

// looked tells what comes behind a reading whose object resolves to a version now.
func (a *Attempt) looked(version int) step {
	if version != a.left[0].Version {
		return a.quit(api.Invalid)
	}
	a.left = a.left[1:]
	return a.look
}

// alive asks whether another one aborted it; if not, the operation is done.
func (a *Attempt) alive() step {
	if a.floor.Table().Status(a.id) == api.Aborted {
		return a.lose(api.Enemy)
	}
	if a.kind == api.Read {
		a.read()
	} else {
		a.note(api.Event{Kind: api.EvWrite, Obj: a.obj, Val: a.sum})
	}
	return a.after()
}

// read takes up what was seen.
func (a *Attempt) read() {
	a.sum, _ = a.floor.Cells().Value(a.seen)
	a.set.Add(reads.Reading{Obj: a.obj, Version: a.seen, Val: a.sum})
	a.note(api.Event{Kind: api.EvRead, Obj: a.obj, Val: a.sum})
}
