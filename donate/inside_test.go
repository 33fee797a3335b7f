package donate

import (
	"fmt"
	"testing"

	"donate/api"
)

// Tickets do not grow with their number, and the last drawn is the greatest.
func TestTicketsDoNotGrow(t *testing.T) {
	k := &Kernel{tickets: firstTickets(5)}
	for _, t := range []int{3, 0, 3, 4, 4, 1, 2, 0, 1, 3} {
		k.drawTicket(t)
	}
	if got := fmt.Sprint(k.tickets); got != "[4 2 0 1 3]" {
		t.Errorf("P5: the threads by their tickets are %s", got)
	}
}

// P10: of the waits that end at one tick only a sleep ends with Done, and they
// end in the order in which they began. (No instruction waits for a semaphore or
// a queue yet, so the test lets the threads wait.)
func TestEveryWaitEnds(t *testing.T) {
	k, err := New(api.Set{Workers: 1, Start: 40, Threads: make([]api.Thread, 6), Mutexes: make([]api.Mutex, 1)})
	if err != api.OK {
		t.Fatalf("P4: New's error %d", err)
	}
	kinds := []int{api.ForMutex, api.ForSem, api.ForQueue, api.ForTime}
	for _, thread := range []int{2, 0, 3, 1} {
		k.beginWait(thread, kinds[thread], thread, 2)
		k.threads[thread].last = api.Waits
	}
	k.beginWait(4, api.ForSem, 3, -1)
	k.threads[4].last = api.Waits
	k.giveOutWorkers()
	k.Pick(0)
	k.Tick()
	for thread, kind := range append(kinds, api.ForSem) {
		until, of := 42, thread
		if thread == 4 {
			until, of = -1, 3
		}
		want := api.View{State: api.Blocked, Last: api.Waits, Released: 1, For: kind, Of: of, Until: until}
		if view, _ := k.Look(thread); view != want {
			t.Errorf("P9: Look(%d) = %+v, want %+v", thread, view, want)
		}
	}
	k.Tick()
	for thread, last := range []api.Code{api.TimedOut, api.TimedOut, api.TimedOut, api.Done} {
		view, _ := k.Look(thread)
		if view.Last != last || view.For != 0 || view.Of != 0 || view.Until != 0 || view.State == api.Blocked {
			t.Errorf("P10: Look(%d) = %+v, want Last %d", thread, view, last)
		}
	}
	for _, thread := range []int{2, 0, 3, 1, -1} {
		if report, _ := k.Pick(0); report.Thread != thread {
			t.Errorf("P10: Pick = %+v, want thread %d", report, thread)
		}
	}
}

// Waits that ended are forgotten, so that a kernel does not grow with them.
func TestWaitersAreForgotten(t *testing.T) {
	codes := []api.Instr{{Op: api.OpSleep, A: 1}, {Op: api.OpWhen}}
	k, err := New(api.Set{Workers: 2, Threads: []api.Thread{{Code: codes}, {Code: codes}}})
	if err != api.OK {
		t.Fatalf("P4: New's error %d", err)
	}
	for i := 0; i < 100; i++ {
		for w := 0; w < 6; w++ {
			k.Pick(w % 2)
		}
		if len(k.waiters) != 2 {
			t.Fatalf("P10: %v wait, want 2 threads", k.waiters)
		}
		k.Tick()
		if len(k.waiters) != 0 {
			t.Fatalf("P10: %v wait, want none", k.waiters)
		}
	}
}
