package donate

import (
	"fmt"
	"testing"

	"donate/api"
)

// Tickets do not grow with their number, and the last drawn is the greatest.
func TestTicketsDoNotGrow(t *testing.T) {
	k := &Kernel{tickets: firstTickets(5)}
	for _, t := range []int{3, 0, 3, 4, 4, 1, 2, 0, 1, 3} {
		k.drawTicket(t)
	}
	if got := fmt.Sprint(k.tickets); got != "[4 2 0 1 3]" {
		t.Errorf("P5: the threads by their tickets are %s", got)
	}
}

// Waits that ended are forgotten, so that a kernel does not grow with them.
func TestWaitersAreForgotten(t *testing.T) {
	codes := []api.Instr{{Op: api.OpSleep, A: 1}, {Op: api.OpWhen}}
	k, err := New(api.Set{Workers: 2, Threads: []api.Thread{{Code: codes}, {Code: codes}}})
	if err != api.OK {
		t.Fatalf("P4: New's error %d", err)
	}
	for i := 0; i < 100; i++ {
		for w := 0; w < 6; w++ {
			k.Pick(w % 2)
		}
		if len(k.waiters) != 2 {
			t.Fatalf("P10: %v wait, want 2 threads", k.waiters)
		}
		k.Tick()
		if len(k.waiters) != 0 {
			t.Fatalf("P10: %v wait, want none", k.waiters)
		}
	}
}

// Messages that were taken out are forgotten, so that a kernel does not grow
// with them.
func TestMessagesAreForgotten(t *testing.T) {
	codes := []api.Instr{{Op: api.OpSend}, {Op: api.OpSend}, {Op: api.OpRecv}, {Op: api.OpWhen, B: 1}}
	k, err := New(api.Set{Workers: 1, Threads: []api.Thread{{Code: codes}}, Queues: []int{2}})
	if err != api.OK {
		t.Fatalf("P4: New's error %d", err)
	}
	for i := 0; i < 1000; i++ {
		k.Pick(0)
		if room := cap(k.queues[0].messages); room > 4 {
			t.Fatalf("P15: memory for %d messages, where 2 have room", room)
		}
	}
}
