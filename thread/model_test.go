package thread_test

import (
	"iter"

	"quarrel/api"
	"quarrel/attempt"
	"quarrel/floor"
)

// model is a thread in the plainest way: the chapter's words from the first to the last, standing still behind each step.
type model struct {
	f                        *floor.Floor
	no                       int
	txns                     [][]api.Op
	txn, try, commits, steps int
	stop                     func()
	next                     func() (bool, bool)
	yield                    func(bool) bool
}

// leftOver is thrown where a test has done with a model that isn't done.
type leftOver struct{}

// modelOf is one that made no step.
func modelOf(f *floor.Floor, no int, all [][]api.Op) *model {
	m := &model{f: f, no: no, txns: all}
	m.next, m.stop = iter.Pull(func(yield func(bool) bool) {
		defer func() {
			if r := recover(); r != nil && r != any(leftOver{}) {
				panic(r)
			}
		}()
		m.yield = yield
		for range all {
			m.transaction()
		}
	})
	return m
}

// Step makes a step.
func (m *model) Step() bool {
	if m.Done() {
		return false
	}
	m.f.Gate().Beat(m.no)
	m.steps++
	m.next()
	return true
}

// Done says whether all transactions ended.
func (m *model) Done() bool { return m.txn == len(m.txns) }

// stand stands still behind a step.
func (m *model) stand() {
	if !m.yield(true) {
		panic(leftOver{})
	}
}

// over ends the transaction at hand with the step that is made.
func (m *model) over() {
	m.txn, m.try = m.txn+1, 0
	m.stand()
}

// transaction does the one at hand.
func (m *model) transaction() {
	stamp, e := m.f.Tickets().Take()
	if e != api.OK {
		m.f.Note(api.Event{Kind: api.EvRefuse, Thread: m.no, Txn: m.txn, Reason: 5})
		m.over()
		return
	}
	m.stand()
	m.tries(stamp)
	if m.f.Config().Manager == api.Greedy {
		m.stand()
		m.f.Gate().Leave(stamp, m.no)
	}
	m.over()
}

// tries makes attempts, up to the last step of the last one.
func (m *model) tries(stamp int) {
	memory := attempt.Fresh()
	for no := 1; ; no++ {
		id, e := m.f.Table().Begin(m.no, m.txn, no, stamp, memory.Raised)
		if e != api.OK {
			m.f.Note(api.Event{Kind: api.EvRefuse, Thread: m.no, Txn: m.txn, Reason: 4})
			return
		}
		m.try = no
		m.f.Note(api.Event{Kind: api.EvBegin, Thread: m.no, Txn: m.txn, Attempt: no, Val: int64(stamp)})
		a, e := attempt.Begin(m.f, m.no, m.txn, no, id, stamp, m.txns[m.txn], memory)
		if e != api.OK {
			panic(e)
		}
		status, reason := api.Active, 0
		for status == api.Active {
			m.stand()
			a.Step()
			status, reason = a.Status()
		}
		if status == api.Committed {
			m.commits++
			return
		}
		if reason == api.Memory {
			return
		}
		memory.Troubled = true
		m.stand()
	}
}
