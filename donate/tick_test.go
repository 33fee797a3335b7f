package donate_test

import (
	"testing"

	"donate/api"
)

// P10: every Tick is one unit of time, and Picks are none.
func TestTickIsOne(t *testing.T) {
	for _, start := range []int{0, 77, api.MaxTime - 5} {
		k := begin(t, api.Set{Workers: 1, Start: start, Threads: []api.Thread{{Code: code{work, work}}}})
		for i := 1; i <= 5; i++ {
			k.Pick(0)
			ticks(t, k)
			if now := k.Now(); now != start+i {
				t.Errorf("P10: Now = %d, want %d", now, start+i)
			}
		}
	}
}

// P10, P1: at MaxTime a Tick is refused, and nothing changes: no job is
// released, no wait ends, no deadline is looked at.
func TestEndOfTime(t *testing.T) {
	k := begin(t, api.Set{Workers: 2, Start: api.MaxTime - 1, Threads: []api.Thread{
		{Base: 5, Period: 1, Deadline: 1},
		{Base: 4, Code: code{sleep(2)}},
		{Base: 3, Code: code{sleep(1)}},
		{Base: 2, Offset: 2},
	}})
	rests(t, k, 1, 1, 0)
	rests(t, k, 1, 2, 0)
	ticks(t, k, api.Miss{Thread: 0, Job: 0, Time: api.MaxTime})
	runs(t, k, 0, 2)
	looks(t, k, 1, api.View{State: api.Blocked, Base: 4, Level: 4, At: 1, Last: api.Waits, Released: 1, For: api.ForTime, Until: api.MaxTime + 1})
	before := seen(k)
	for i := 0; i < 3; i++ {
		if got, err := k.Tick(); err != api.ErrClock || got != nil {
			t.Errorf("P10: Tick at MaxTime = %v, %d, want ErrClock", got, err)
		}
		if after := seen(k); after != before {
			t.Errorf("P1: behind a refused Tick there is %s, was %s", after, before)
		}
	}
	picks(t, k, 0, 0, 0)
	runs(t, k, 0, 2)
}

// P10: a kernel that begins at MaxTime does not tick at all, but works.
func TestBeginAtEndOfTime(t *testing.T) {
	k := begin(t, api.Set{Workers: 1, Start: api.MaxTime, Threads: []api.Thread{{Period: 1, Deadline: 1, Code: code{sleep(1000)}}}})
	if got, err := k.Tick(); err != api.ErrClock || got != nil || k.Now() != api.MaxTime {
		t.Errorf("P10: Tick = %v, %d, Now = %d", got, err, k.Now())
	}
	rests(t, k, 0, 0, 0)
	looks(t, k, 0, api.View{State: api.Blocked, At: 1, Last: api.Waits, Released: 1, For: api.ForTime, Until: api.MaxTime + 1000})
	if _, err := k.Tick(); err != api.ErrClock {
		t.Errorf("P10: Tick's error %d, want ErrClock", err)
	}
}

// P10: a thread that sleeps is Blocked up to the tick that its wait ends at,
// and then goes on at the next place, with Last Done.
func TestSleep(t *testing.T) {
	for _, n := range []int{1, 2, 7, 1000} {
		k := begin(t, api.Set{Workers: 1, Start: 30, Threads: []api.Thread{{Base: 5, Code: code{work, sleep(n), when(0, 3)}}, {Base: 1}}})
		ticks(t, k)
		picks(t, k, 0, 0, 0)
		rests(t, k, 0, 0, 1)
		for i := 0; i < n; i++ {
			runs(t, k, 1)
			looks(t, k, 0, api.View{State: api.Blocked, Base: 5, Level: 5, At: 2, Last: api.Waits, Released: 1, For: api.ForTime, Until: 31 + n})
			ticks(t, k)
		}
		runs(t, k, 0)
		looks(t, k, 0, api.View{State: api.Running, Base: 5, Level: 5, At: 2, Released: 1})
		picks(t, k, 0, 0, 2)
		picks(t, k, 0, 0, 3)
		runs(t, k, 1)
	}
}

// P10: a Sleep at the end of the code: behind it the End.
func TestSleepThenEnd(t *testing.T) {
	k := begin(t, workers(1, api.Thread{Base: 5, Code: code{sleep(1)}}))
	rests(t, k, 0, 0, 0)
	picks(t, k, 0, -1, 0)
	ticks(t, k)
	picks(t, k, 0, 0, 1)
	looks(t, k, 0, api.View{State: api.Idle, Base: 5, Level: 5, Released: 1, Ended: 1})
}

// P10: waits that end at one tick end in the order in which they began, not by
// number or length.
func TestWakeInOrder(t *testing.T) {
	k := begin(t, workers(4,
		api.Thread{Base: 5, Code: code{sleep(2)}},
		api.Thread{Base: 5, Code: code{sleep(1)}},
		api.Thread{Base: 5, Code: code{sleep(3)}},
		api.Thread{Base: 5, Code: code{sleep(2)}},
	))
	rests(t, k, 2, 2, 0)
	ticks(t, k)
	rests(t, k, 3, 3, 0)
	rests(t, k, 0, 0, 0)
	ticks(t, k)
	rests(t, k, 1, 1, 0)
	runs(t, k, -1, -1, -1, -1)
	ticks(t, k)
	runs(t, k, 2, 3, 0, 1)
}

// P10: of the waits that end at one tick only a sleep ends with Done; they end in
// the order in which they began, whatever was waited for. A wait without end
// goes on.
func TestEveryWaitEnds(t *testing.T) {
	set := roomFor(1, roomFor(1, counting(0, 1, counting(0, 1, inherit(1, workers(7,
		api.Thread{Base: 9, Code: code{lock(0, -1), work}},
		api.Thread{Base: 4, Code: code{lock(0, 2)}},
		api.Thread{Base: 4, Code: code{down(1, 2)}},
		api.Thread{Base: 4, Code: code{recv(1, 2)}},
		api.Thread{Base: 4, Code: code{sleep(2)}},
		api.Thread{Base: 4, Code: code{down(0, -1)}},
		api.Thread{Base: 4, Code: code{recv(0, -1)}},
	))))))
	set.Start = 40
	k := begin(t, set)
	picks(t, k, 0, 0, 0)
	for _, thread := range []int{3, 5, 1, 6, 4, 2} {
		rests(t, k, thread, thread, 0)
	}
	ticks(t, k)
	for thread, wait := range []api.View{
		{For: api.ForMutex, Until: 42},
		{For: api.ForSem, Of: 1, Until: 42},
		{For: api.ForQueue, Of: 1, Until: 42},
		{For: api.ForTime, Until: 42},
		{For: api.ForSem, Until: -1},
		{For: api.ForQueue, Until: -1},
	} {
		wait.State, wait.Base, wait.Level, wait.At, wait.Last, wait.Released = api.Blocked, 4, 4, 1, api.Waits, 1
		looks(t, k, thread+1, wait)
	}
	ticks(t, k)
	runs(t, k, 0, 3, 1, 4, 2, -1, -1)
	for thread, last := range []api.Code{api.Done, api.TimedOut, api.TimedOut, api.TimedOut, api.Done} {
		if view, _ := k.Look(thread); view.Last != last || view.For != 0 || view.Of != 0 || view.Until != 0 {
			t.Errorf("P10: Look(%d) = %+v, want Last %d", thread, view, last)
		}
	}
	for thread := 5; thread < 7; thread++ {
		if view, _ := k.Look(thread); view.State != api.Blocked || view.Last != api.Waits {
			t.Errorf("P10: Look(%d) = %+v, want Blocked", thread, view)
		}
	}
}

// P10: nor do they end by level: thread 0 began first, and has the lesser
// ticket, as is seen when thread 1 comes down to its level.
func TestWakeNotByLevel(t *testing.T) {
	k := begin(t, workers(2,
		api.Thread{Base: 5, Code: code{sleep(2)}},
		api.Thread{Base: 9, Code: code{sleep(1), prio(1, 5), work}},
		api.Thread{Base: 7, Offset: 2},
	))
	rests(t, k, 1, 0, 0)
	ticks(t, k)
	rests(t, k, 0, 1, 0)
	ticks(t, k)
	runs(t, k, 1, 2)
	picks(t, k, 0, 1, 1)
	runs(t, k, 0, 2)
}

// P10: a thread that wakes draws a ticket: those of its level that were awake
// go ahead of it.
func TestWakeBehindAwake(t *testing.T) {
	k := begin(t, workers(1, api.Thread{Base: 5, Code: code{sleep(1)}}, api.Thread{Base: 5, Code: code{work}}))
	rests(t, k, 0, 0, 0)
	picks(t, k, 0, 1, 0)
	ticks(t, k)
	runs(t, k, 1)
	picks(t, k, 0, 1, 1)
	runs(t, k, 0)
}

// P10: those who wake go ahead of those whose job is released at that tick.
func TestWakeAheadOfRelease(t *testing.T) {
	k := begin(t, workers(1,
		api.Thread{Base: 5, Offset: 3},
		api.Thread{Base: 5, Code: code{sleep(3)}},
		api.Thread{Base: 5, Code: code{sleep(3)}},
		api.Thread{Base: 5, Offset: 3},
	))
	rests(t, k, 0, 1, 0)
	rests(t, k, 0, 2, 0)
	for i := 0; i < 3; i++ {
		runs(t, k, -1)
		ticks(t, k)
	}
	picks(t, k, 0, 1, 1)
	picks(t, k, 0, 2, 1)
	picks(t, k, 0, 0, 0)
	picks(t, k, 0, 3, 0)
}

// P5, P6, P10: the workers are given out behind all else of a Tick; who still
// runs stays on its worker.
func TestWorkersBehindTick(t *testing.T) {
	k := begin(t, workers(3,
		api.Thread{Base: 5, Code: code{sleep(2)}},
		api.Thread{Base: 4, Code: code{work}},
		api.Thread{Base: 3, Code: code{work}},
		api.Thread{Base: 8, Offset: 2},
		api.Thread{Base: 9, Offset: 1},
	))
	runs(t, k, 0, 1, 2)
	rests(t, k, 0, 0, 0)
	runs(t, k, -1, 1, 2)
	ticks(t, k)
	runs(t, k, 4, 1, 2)
	ticks(t, k)
	runs(t, k, 4, 3, 0)
	looks(t, k, 1, api.View{State: api.Ready, Base: 4, Level: 4, Released: 1})
	picks(t, k, 0, 4, 0)
	runs(t, k, 1, 3, 0)
}

// P10, P11: while a thread sleeps its jobs are released and missed; it stays
// Blocked, and draws its ticket when it wakes.
func TestJobsWhileAsleep(t *testing.T) {
	k := begin(t, workers(1,
		api.Thread{Base: 5, Period: 2, Deadline: 2, Code: code{sleep(5)}},
		api.Thread{Base: 5, Offset: 4, Code: code{work}},
	))
	rests(t, k, 0, 0, 0)
	ticks(t, k)
	ticks(t, k, api.Miss{Thread: 0, Job: 0, Time: 2})
	runs(t, k, -1)
	looks(t, k, 0, api.View{State: api.Blocked, Base: 5, Level: 5, At: 1, Last: api.Waits, Released: 2, For: api.ForTime, Until: 5})
	ticks(t, k)
	ticks(t, k, api.Miss{Thread: 0, Job: 1, Time: 4})
	runs(t, k, 1)
	ticks(t, k)
	runs(t, k, 1)
	looks(t, k, 0, api.View{State: api.Ready, Base: 5, Level: 5, At: 1, Released: 3})
	picks(t, k, 0, 1, 0)
	picks(t, k, 0, 1, 1)
	picks(t, k, 0, 0, 1)
	looks(t, k, 0, api.View{State: api.Running, Base: 5, Level: 5, Released: 3, Ended: 1})
	rests(t, k, 0, 0, 0)
}

// P10: a sleep that ends as the next job is released.
func TestWakeAtRelease(t *testing.T) {
	k := begin(t, workers(1, api.Thread{Base: 5, Period: 2, Deadline: 2, Code: code{sleep(2)}}, api.Thread{Base: 5, Offset: 2}))
	rests(t, k, 0, 0, 0)
	ticks(t, k)
	ticks(t, k, api.Miss{Thread: 0, Job: 0, Time: 2})
	looks(t, k, 0, api.View{State: api.Running, Base: 5, Level: 5, At: 1, Released: 2})
	picks(t, k, 0, 0, 1)
	runs(t, k, 1)
	looks(t, k, 0, api.View{State: api.Ready, Base: 5, Level: 5, Released: 2, Ended: 1})
}

// P7, P8: the Base of a thread that sleeps may change, and it sleeps on.
func TestPrioOfSleeper(t *testing.T) {
	k := begin(t, workers(1, api.Thread{Base: 5, Code: code{sleep(1)}}, api.Thread{Base: 3, Code: code{prio(0, 2), work}}))
	rests(t, k, 0, 0, 0)
	picks(t, k, 0, 1, 0)
	looks(t, k, 0, api.View{State: api.Blocked, Base: 2, Level: 2, At: 1, Last: api.Waits, Released: 1, For: api.ForTime, Until: 1})
	ticks(t, k)
	runs(t, k, 1)
	looks(t, k, 0, api.View{State: api.Ready, Base: 2, Level: 2, At: 1, Released: 1})
}
