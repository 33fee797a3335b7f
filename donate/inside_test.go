package donate

import (
	"testing"

	"donate/api"
)

// lasts: a Pick of worker 0 must do thread 0's instruction at a place, and then
// its At and Last must be the given ones.
func lasts(t *testing.T, k *Kernel, place int, at int, last api.Code) {
	t.Helper()
	report, _ := k.Pick(0)
	view, _ := k.Look(0)
	if report != (api.Report{At: place}) || view.At != at || view.Last != last {
		t.Errorf("P7: %+v, %+v, want place %d, At %d, Last %d", report, view, place, at, last)
	}
}

// P7: When leaves Last as it is, every other instruction sets it. (No thread
// that is awake has another Last than Done yet, so the test sets Last.)
func TestLast(t *testing.T) {
	codes := []api.Instr{{Op: api.OpWhen, A: 0, B: 3}, {Op: api.OpWhen, A: 7, B: 3}, {}, {Op: api.OpWork}, {Op: api.OpWhen, A: 7}}
	k, err := New(api.Set{Workers: 1, Threads: []api.Thread{{Code: codes}}})
	if err != api.OK {
		t.Fatalf("P4: New's error %d", err)
	}
	k.threads[0].last = api.Full
	lasts(t, k, 0, 1, api.Full)
	lasts(t, k, 1, 3, api.Full)
	lasts(t, k, 3, 4, api.Done)
	lasts(t, k, 4, 5, api.Done)
	k.threads[0].last = api.Full
	lasts(t, k, 5, 0, api.Done)
}

// Tickets stay below the number of threads, and the last drawn is the greatest.
func TestTicketsAreRanks(t *testing.T) {
	k := &Kernel{threads: make([]thread, 5)}
	for i := range k.threads {
		k.threads[i].ticket = i
	}
	drawn := []int{3, 0, 3, 4, 4, 1, 2, 0, 1, 3}
	for _, t := range drawn {
		k.drawTicket(t)
	}
	for i, want := range []int{2, 3, 1, 4, 0} {
		if got := k.threads[i].ticket; got != want {
			t.Errorf("P5: the ticket of thread %d is %d, want %d", i, got, want)
		}
	}
}

// P10: of the waits that end at one tick only a sleep ends with Done, and they
// end in the order in which they began. (No instruction waits for a thing yet,
// so the test lets the threads wait.)
func TestEveryWaitEnds(t *testing.T) {
	k, err := New(api.Set{Workers: 1, Start: 40, Threads: make([]api.Thread, 6)})
	if err != api.OK {
		t.Fatalf("P4: New's error %d", err)
	}
	kinds := []int{api.ForMutex, api.ForSem, api.ForQueue, api.ForTime}
	for _, thread := range []int{2, 0, 3, 1} {
		k.beginWait(thread, kinds[thread], thread, 2)
		k.threads[thread].last = api.Waits
	}
	k.beginWait(4, api.ForSem, 3, -1)
	k.threads[4].last = api.Waits
	k.giveOutWorkers()
	k.Pick(0)
	k.Tick()
	for thread, kind := range append(kinds, api.ForSem) {
		until, of := 42, thread
		if thread == 4 {
			until, of = -1, 3
		}
		want := api.View{State: api.Blocked, Last: api.Waits, Released: 1, For: kind, Of: of, Until: until}
		if view, _ := k.Look(thread); view != want {
			t.Errorf("P9: Look(%d) = %+v, want %+v", thread, view, want)
		}
	}
	k.Tick()
	for thread, last := range []api.Code{api.TimedOut, api.TimedOut, api.TimedOut, api.Done} {
		view, _ := k.Look(thread)
		if view.Last != last || view.For != 0 || view.Of != 0 || view.Until != 0 || view.State == api.Blocked {
			t.Errorf("P10: Look(%d) = %+v, want Last %d", thread, view, last)
		}
	}
	for _, thread := range []int{2, 0, 3, 1, -1} {
		if report, _ := k.Pick(0); report.Thread != thread {
			t.Errorf("P10: Pick = %+v, want thread %d", report, thread)
		}
	}
}

// Waits that ended are forgotten, so that a kernel does not grow with them.
func TestWaitersAreForgotten(t *testing.T) {
	codes := []api.Instr{{Op: api.OpSleep, A: 1}, {Op: api.OpWhen}}
	k, err := New(api.Set{Workers: 2, Threads: []api.Thread{{Code: codes}, {Code: codes}}})
	if err != api.OK {
		t.Fatalf("P4: New's error %d", err)
	}
	for i := 0; i < 100; i++ {
		for w := 0; w < 6; w++ {
			k.Pick(w % 2)
		}
		if len(k.waiters) != 2 {
			t.Fatalf("P10: %v wait, want 2 threads", k.waiters)
		}
		k.Tick()
		if len(k.waiters) != 0 {
			t.Fatalf("P10: %v wait, want none", k.waiters)
		}
	}
}
