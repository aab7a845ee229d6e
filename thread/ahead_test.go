package thread

import (
	"testing"

	"quarrel/api"
	"quarrel/floor"
)

// P15.2: the pulse goes on ahead of what the step does. From outside that isn't seen: no step tells whether it saw its own pulse.
func TestPulseAheadOfTheStep(t *testing.T) {
	c := api.Config{Objects: 1, Threads: 2, Records: 40, Tickets: 9, Manager: api.Greedy, Wait: 4}
	f, _ := floor.New(c, []int64{5}, nil)
	a, e := New(f, 1, [][]api.Op{{{Kind: api.Write}}})
	if e != api.OK {
		t.Fatalf("New: error %d", e)
	}
	var within func(does step) step
	made := 0
	within = func(does step) step {
		if does == nil {
			return nil
		}
		return func() step {
			made++
			if n := f.Gate().Pulse(1); n != made {
				t.Errorf("within the step %d: the pulse %d", made, n)
			}
			return within(does())
		}
	}
	a.next = within(a.next)
	for a.Step() {
	}
	if made != 10 || a.Commits() != 1 {
		t.Errorf("%d steps, %d commits", made, a.Commits())
	}
}
