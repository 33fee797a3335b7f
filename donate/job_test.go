package donate_test

import (
	"testing"

	"donate/api"
)

// released: the times of the first ticks at which a thread's jobs are released.
func released(t *testing.T, thread api.Thread, start int, ticks int) []int {
	t.Helper()
	k := begin(t, api.Set{Workers: 1, Start: start, Threads: []api.Thread{thread}})
	var times []int
	count := 0
	for i := 0; i <= ticks; i++ {
		view, _ := k.Look(0)
		for ; count < view.Released; count++ {
			times = append(times, k.Now())
		}
		k.Tick()
	}
	return times
}

// P10: job k is released at Start + Offset + k times Period.
func TestReleaseTimes(t *testing.T) {
	for _, c := range []struct {
		thread api.Thread
		start  int
		want   []int
	}{
		{api.Thread{}, 0, []int{0}},
		{api.Thread{}, 7, []int{7}},
		{api.Thread{Offset: 3}, 7, []int{10}},
		{api.Thread{Offset: 10}, 7, []int{17}},
		{api.Thread{Offset: 11}, 7, nil},
		{api.Thread{Period: 4}, 0, []int{0, 4, 8}},
		{api.Thread{Period: 5}, 1, []int{1, 6, 11}},
		{api.Thread{Period: 11}, 3, []int{3}},
		{api.Thread{Offset: 2, Period: 4}, 6, []int{8, 12, 16}},
		{api.Thread{Offset: 9, Period: 1}, 0, []int{9, 10}},
		{api.Thread{Offset: 7, Period: 3}, api.MaxTime - 10, []int{api.MaxTime - 3, api.MaxTime}},
	} {
		got := released(t, c.thread, c.start, 10)
		same := len(got) == len(c.want)
		for i := 0; same && i < len(got); i++ {
			same = got[i] == c.want[i]
		}
		if !same {
			t.Errorf("P10: %+v from %d on: jobs are released at %v, want %v", c.thread, c.start, got, c.want)
		}
	}
}

// P10: the greatest Offset and Period.
func TestLateRelease(t *testing.T) {
	k := begin(t, workers(1, api.Thread{Base: 3, Offset: 1000, Period: 1000, Deadline: 1000}))
	for i := 1; i < 1000; i++ {
		ticks(t, k)
	}
	runs(t, k, -1)
	ticks(t, k)
	runs(t, k, 0)
	for i := 1; i < 1000; i++ {
		ticks(t, k)
	}
	looks(t, k, 0, api.View{State: api.Running, Base: 3, Level: 3, Released: 1})
	ticks(t, k, api.Miss{Thread: 0, Job: 0, Time: 2000})
	looks(t, k, 0, api.View{State: api.Running, Base: 3, Level: 3, Released: 2})
}

// P10: where the Period is 0 there is job 0 alone, ended or not.
func TestOneJobAlone(t *testing.T) {
	k := begin(t, workers(2, api.Thread{Base: 2}, api.Thread{Base: 1}, api.Thread{Base: 1, Offset: 2}))
	picks(t, k, 0, 0, 0)
	for i := 0; i < 30; i++ {
		ticks(t, k)
	}
	looks(t, k, 0, api.View{State: api.Idle, Base: 2, Level: 2, Released: 1, Ended: 1})
	looks(t, k, 1, api.View{State: api.Running, Base: 1, Level: 1, Released: 1})
	looks(t, k, 2, api.View{State: api.Running, Base: 1, Level: 1, Released: 1})
}

// P10: a thread that was Idle draws a ticket when a job is released, whatever
// its number.
func TestReleaseOfIdle(t *testing.T) {
	k := begin(t, workers(1, api.Thread{Base: 5, Offset: 1}, api.Thread{Base: 5}, api.Thread{Base: 5}))
	ticks(t, k)
	for _, thread := range []int{1, 2, 0} {
		picks(t, k, 0, thread, 0)
	}
	k = begin(t, workers(1, api.Thread{Base: 5, Period: 2}, api.Thread{Base: 5, Offset: 1}))
	picks(t, k, 0, 0, 0)
	ticks(t, k)
	runs(t, k, 1)
	ticks(t, k)
	runs(t, k, 1)
	looks(t, k, 0, api.View{State: api.Ready, Base: 5, Level: 5, Released: 2, Ended: 1})
}

// P10: a thread that was not Idle draws none.
func TestReleaseOfBusy(t *testing.T) {
	k := begin(t, workers(1, api.Thread{Base: 5, Period: 1, Code: code{work}}, api.Thread{Base: 5, Period: 1}))
	picks(t, k, 0, 0, 0)
	ticks(t, k)
	ticks(t, k)
	runs(t, k, 0)
	looks(t, k, 0, api.View{State: api.Running, Base: 5, Level: 5, At: 1, Released: 3})
	looks(t, k, 1, api.View{State: api.Ready, Base: 5, Level: 5, Released: 3})
}

// P10: jobs of one tick are released thread by thread.
func TestReleaseByThread(t *testing.T) {
	late := api.Thread{Base: 5, Offset: 2}
	k := begin(t, workers(2, late, late, late, api.Thread{Base: 6, Offset: 2}, late))
	ticks(t, k)
	runs(t, k, -1, -1)
	ticks(t, k)
	runs(t, k, 3, 0)
	picks(t, k, 0, 3, 0)
	runs(t, k, 1, 0)
	picks(t, k, 0, 1, 0)
	runs(t, k, 2, 0)
	picks(t, k, 1, 0, 0)
	runs(t, k, 2, 4)
}

// P7: a job that ends while the next is released: the thread draws a ticket,
// begins at place 0, and stays awake.
func TestEndWithNextJob(t *testing.T) {
	again := api.Thread{Base: 5, Period: 1, Code: code{work}}
	k := begin(t, workers(1, again, again, api.Thread{Base: 4}))
	ticks(t, k)
	for round := 0; round < 2; round++ {
		for thread := 0; thread < 2; thread++ {
			picks(t, k, 0, thread, 0)
			picks(t, k, 0, thread, 1)
			if round == 0 {
				looks(t, k, thread, api.View{State: api.Ready, Base: 5, Level: 5, Released: 2, Ended: 1})
			}
		}
	}
	looks(t, k, 0, api.View{State: api.Idle, Base: 5, Level: 5, Released: 2, Ended: 2})
	picks(t, k, 0, 2, 0)
	runs(t, k, -1)
}

// P6: who has the next job at once stays on its worker if it still runs.
func TestNextJobOnSameWorker(t *testing.T) {
	k := begin(t, workers(2, api.Thread{Base: 9}, api.Thread{Base: 5, Period: 1}))
	ticks(t, k)
	picks(t, k, 0, 0, 0)
	picks(t, k, 1, 1, 0)
	runs(t, k, -1, 1)
	picks(t, k, 1, 1, 0)
	runs(t, k, -1, -1)
	ticks(t, k)
	runs(t, k, 1, -1)
}

// P11: the example "Jobs".
func TestDeadlines(t *testing.T) {
	k := begin(t, workers(1, api.Thread{Base: 3, Period: 4, Deadline: 3, Code: code{work, work}}))
	ticks(t, k)
	ticks(t, k)
	ticks(t, k, api.Miss{Thread: 0, Job: 0, Time: 3})
	ticks(t, k)
	for at := 0; at < 3; at++ {
		picks(t, k, 0, 0, at)
	}
	looks(t, k, 0, api.View{State: api.Running, Base: 3, Level: 3, Released: 2, Ended: 1})
	ticks(t, k)
	ticks(t, k)
	ticks(t, k, api.Miss{Thread: 0, Job: 1, Time: 7})
	misses(t, k, api.Miss{Thread: 0, Job: 0, Time: 3}, api.Miss{Thread: 0, Job: 1, Time: 7})
}

// P10, P11: a deadline that is also the next release belongs to the job ahead.
func TestDeadlineAtRelease(t *testing.T) {
	k := begin(t, api.Set{Workers: 1, Start: 50, Threads: []api.Thread{{Base: 3, Period: 2, Deadline: 2}}})
	ticks(t, k)
	ticks(t, k, api.Miss{Thread: 0, Job: 0, Time: 52})
	picks(t, k, 0, 0, 0)
	ticks(t, k)
	picks(t, k, 0, 0, 0)
	ticks(t, k)
	looks(t, k, 0, api.View{State: api.Running, Base: 3, Level: 3, Released: 3, Ended: 2})
	ticks(t, k)
	ticks(t, k, api.Miss{Thread: 0, Job: 2, Time: 56})
}

// P11: a job that ended in time is not told, though it ended just ahead of the
// tick; and a job is told once.
func TestNotMissed(t *testing.T) {
	k := begin(t, workers(2, api.Thread{Base: 3, Deadline: 1}, api.Thread{Base: 3, Deadline: 1}))
	picks(t, k, 1, 1, 0)
	ticks(t, k, api.Miss{Thread: 0, Job: 0, Time: 1})
	picks(t, k, 0, 0, 0)
	for i := 0; i < 10; i++ {
		ticks(t, k)
	}
	misses(t, k, api.Miss{Thread: 0, Job: 0, Time: 1})
}

// P11: where the Deadline is 0 there is none.
func TestNoDeadline(t *testing.T) {
	k := begin(t, workers(1, api.Thread{Base: 3}, api.Thread{Base: 3, Period: 1}, api.Thread{Base: 2, Offset: 2, Period: 3}))
	for i := 0; i < 20; i++ {
		ticks(t, k)
	}
	misses(t, k)
}

// P11: where the Period is 0 the Deadline may be any number of ticks.
func TestLongDeadline(t *testing.T) {
	k := begin(t, api.Set{Workers: 1, Start: 9, Threads: []api.Thread{{Base: 3, Offset: 2, Deadline: 1000}, {Base: 3, Deadline: 40}}})
	for k.Now() < 1010 {
		if k.Now() == 48 {
			ticks(t, k, api.Miss{Thread: 1, Job: 0, Time: 49})
		} else {
			ticks(t, k)
		}
	}
	ticks(t, k, api.Miss{Thread: 0, Job: 0, Time: 1011})
	ticks(t, k)
}

// P11: every job that is not ended is told, however many are behind.
func TestManyJobsBehind(t *testing.T) {
	k := begin(t, workers(1, api.Thread{Base: 1, Offset: 1, Period: 3, Deadline: 2}))
	for job := 0; job < 5; job++ {
		ticks(t, k)
		ticks(t, k)
		ticks(t, k, api.Miss{Thread: 0, Job: job, Time: 3*job + 3})
	}
	for i := 0; i < 5; i++ {
		picks(t, k, 0, 0, 0)
	}
	ticks(t, k)
	picks(t, k, 0, 0, 0)
	looks(t, k, 0, api.View{State: api.Idle, Base: 1, Level: 1, Released: 6, Ended: 6})
	ticks(t, k)
	ticks(t, k)
}

// P11: misses are told thread by thread, whatever the levels, and Misses keeps
// the order of the ticks.
func TestMissesByThread(t *testing.T) {
	k := begin(t, workers(1,
		api.Thread{Base: 1, Deadline: 2},
		api.Thread{Base: 9, Period: 1, Deadline: 1},
		api.Thread{Base: 5, Offset: 1, Deadline: 1},
	))
	misses(t, k)
	ticks(t, k, api.Miss{Thread: 1, Job: 0, Time: 1})
	ticks(t, k, api.Miss{Thread: 0, Job: 0, Time: 2}, api.Miss{Thread: 1, Job: 1, Time: 2}, api.Miss{Thread: 2, Job: 0, Time: 2})
	misses(t, k,
		api.Miss{Thread: 1, Job: 0, Time: 1},
		api.Miss{Thread: 0, Job: 0, Time: 2},
		api.Miss{Thread: 1, Job: 1, Time: 2},
		api.Miss{Thread: 2, Job: 0, Time: 2},
	)
}
