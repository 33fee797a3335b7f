package donate_test

import (
	"testing"

	"donate/api"
)

// P4: every thread has its Base, and job 0 is released where the Offset is 0.
func TestNewThreads(t *testing.T) {
	k := begin(t, workers(2,
		api.Thread{Base: 0, Code: code{work}},
		api.Thread{Base: 255, Offset: 1},
		api.Thread{Base: 7, Period: 10, Deadline: 10},
		api.Thread{Base: 6, Offset: 1000, Period: 1},
		api.Thread{Base: 6},
	))
	runs(t, k, 2, 4)
	looks(t, k, 0, api.View{State: api.Ready, Released: 1})
	looks(t, k, 1, api.View{State: api.Idle, Base: 255, Level: 255})
	looks(t, k, 2, api.View{State: api.Running, Base: 7, Level: 7, Released: 1})
	looks(t, k, 3, api.View{State: api.Idle, Base: 6, Level: 6})
	looks(t, k, 4, api.View{State: api.Running, Base: 6, Level: 6, Released: 1})
}

// P4: the kernel is at the time Start, and job 0 is released at any Start.
func TestNewTime(t *testing.T) {
	for _, start := range []int{0, 1, 77, api.MaxTime - 1, api.MaxTime} {
		k := begin(t, api.Set{Workers: 1, Start: start, Threads: []api.Thread{{}, {Offset: 1000}}})
		if now := k.Now(); now != start {
			t.Errorf("P4: Now = %d, want %d", now, start)
		}
		runs(t, k, 0)
		picks(t, k, 0, 0, 0)
		if now := k.Now(); now != start {
			t.Errorf("P10: Now = %d behind a Pick, want %d", now, start)
		}
	}
}

// P4: tickets are drawn thread by thread, so of one Base the first goes ahead.
func TestNewTickets(t *testing.T) {
	threads := make([]api.Thread, 16)
	k := begin(t, api.Set{Workers: 3, Threads: threads})
	runs(t, k, 0, 1, 2)
	for thread := 0; thread < 16; thread++ {
		picks(t, k, thread%3, thread, 0)
	}
	runs(t, k, -1, -1, -1)
}

func TestNewWithoutJobs(t *testing.T) {
	k := begin(t, workers(8, api.Thread{Base: 3, Offset: 1}))
	runs(t, k, -1, -1, -1, -1, -1, -1, -1, -1)
	picks(t, k, 7, -1, 0)
	looks(t, k, 0, api.View{State: api.Idle, Base: 3, Level: 3})
}
