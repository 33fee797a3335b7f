package donate

import (
	"testing"

	"donate/api"
)

// P7: a job that ends while the next is released: the thread draws a ticket,
// and stays awake. (Tick does not release jobs yet, so the test does.)
func TestEndWithNextJobReleased(t *testing.T) {
	set := api.Set{Workers: 1, Threads: []api.Thread{{Base: 5, Period: 9}, {Base: 5, Period: 9}, {Base: 4}}}
	k, err := New(set)
	if err != api.OK {
		t.Fatalf("P4: New's error %d", err)
	}
	k.release(0)
	k.release(1)
	k.release(1)
	for i, thread := range []int{0, 1, 0, 1, 1, 2} {
		report, _ := k.Pick(0)
		if want := (api.Report{Thread: thread}); report != want {
			t.Errorf("P7: pick %d: %+v, want %+v", i, report, want)
		}
		if i == 0 {
			view, _ := k.Look(0)
			if want := (api.View{State: api.Ready, Base: 5, Level: 5, Released: 2, Ended: 1}); view != want {
				t.Errorf("P7: %+v, want %+v", view, want)
			}
		}
	}
}

// A job that is released while another goes on draws no ticket.
func TestReleaseOfBusyThread(t *testing.T) {
	k, err := New(api.Set{Workers: 1, Threads: []api.Thread{{Base: 5}, {Base: 5}}})
	if err != api.OK {
		t.Fatalf("P4: New's error %d", err)
	}
	k.release(0)
	k.giveOutWorkers()
	if running := k.Running(); running[0] != 0 {
		t.Errorf("P5: Running = %v, want thread 0", running)
	}
}

// A thread that becomes awake draws a ticket, whatever its number.
func TestReleaseOfIdleThread(t *testing.T) {
	k, err := New(api.Set{Workers: 1, Threads: []api.Thread{{Base: 5, Offset: 3}, {Base: 5}}})
	if err != api.OK {
		t.Fatalf("P4: New's error %d", err)
	}
	k.release(0)
	k.giveOutWorkers()
	if running := k.Running(); running[0] != 1 {
		t.Errorf("P5: Running = %v, want thread 1", running)
	}
}

// lasts: a Pick of worker 0 must do thread 0's instruction at a place, and then
// its At and Last must be the given ones.
func lasts(t *testing.T, k *Kernel, place int, at int, last api.Code) {
	t.Helper()
	report, _ := k.Pick(0)
	view, _ := k.Look(0)
	if report != (api.Report{At: place}) || view.At != at || view.Last != last {
		t.Errorf("P7: %+v, %+v, want place %d, At %d, Last %d", report, view, place, at, last)
	}
}

// P7: When leaves Last as it is, every other instruction sets it. (No
// instruction ends with another code than Done yet, so the test sets Last.)
func TestLast(t *testing.T) {
	codes := []api.Instr{{Op: api.OpWhen, A: 0, B: 3}, {Op: api.OpWhen, A: 7, B: 3}, {}, {Op: api.OpWork}, {Op: api.OpWhen, A: 7}}
	k, err := New(api.Set{Workers: 1, Threads: []api.Thread{{Code: codes}}})
	if err != api.OK {
		t.Fatalf("P4: New's error %d", err)
	}
	k.release(0)
	k.threads[0].last = api.Full
	lasts(t, k, 0, 1, api.Full)
	lasts(t, k, 1, 3, api.Full)
	lasts(t, k, 3, 4, api.Done)
	lasts(t, k, 4, 5, api.Done)
	k.threads[0].last = api.Full
	lasts(t, k, 5, 0, api.Done)
}

// Tickets stay below the number of threads, and the last drawn is the greatest.
func TestTicketsAreRanks(t *testing.T) {
	k := &Kernel{threads: make([]thread, 5)}
	for i := range k.threads {
		k.threads[i].ticket = i
	}
	drawn := []int{3, 0, 3, 4, 4, 1, 2, 0, 1, 3}
	for _, t := range drawn {
		k.drawTicket(t)
	}
	for i, want := range []int{2, 3, 1, 4, 0} {
		if got := k.threads[i].ticket; got != want {
			t.Errorf("P5: the ticket of thread %d is %d, want %d", i, got, want)
		}
	}
}
