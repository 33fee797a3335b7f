package donate_test

import (
	"testing"

	"donate/api"
)

// P12: a mutex that nobody owns is locked, however long one would wait for it.
func TestLockFree(t *testing.T) {
	for _, n := range []int{-1, 0, 1, 1000} {
		k := begin(t, inherit(2, workers(1, api.Thread{Base: 4, Code: code{lock(1, n)}})))
		owners(t, k, -1, -1)
		picks(t, k, 0, 0, 0)
		owners(t, k, -1, 0)
		looks(t, k, 0, api.View{State: api.Running, Base: 4, Level: 4, At: 1, Released: 1})
		lines(t, k, 1)
	}
}

// P12: who owns a mutex does not lock it again, nor wait for itself.
func TestRelock(t *testing.T) {
	for _, n := range []int{-1, 0, 5} {
		k := begin(t, inherit(1, workers(1, api.Thread{Base: 4, Code: code{lock(0, -1), lock(0, n), lock(0, n)}})))
		picks(t, k, 0, 0, 0)
		answers(t, k, 0, 0, 1, api.Relock)
		looks(t, k, 0, api.View{State: api.Running, Base: 4, Level: 4, At: 2, Last: api.Relock, Released: 1})
		answers(t, k, 0, 0, 2, api.Relock)
		owners(t, k, 0)
	}
}

// P12: Relock is told ahead of TooHigh.
func TestRelockAboveTop(t *testing.T) {
	k := begin(t, ceiling(5, workers(1, api.Thread{Base: 5, Code: code{lock(0, -1), prio(0, 6), lock(0, 0), unlock(0), lock(0, 0)}})))
	picks(t, k, 0, 0, 0)
	picks(t, k, 0, 0, 1)
	answers(t, k, 0, 0, 2, api.Relock)
	picks(t, k, 0, 0, 3)
	answers(t, k, 0, 0, 4, api.TooHigh)
	owners(t, k, -1)
}

// P12: a Base above the Top bars a thread, also from a mutex that is free; one
// that is the Top does not.
func TestTooHigh(t *testing.T) {
	for _, c := range []struct {
		base, top, level int
		want             api.Code
		owner            int
	}{
		{0, 0, 0, api.Done, 0},
		{1, 0, 1, api.TooHigh, -1},
		{7, 7, 7, api.Done, 0},
		{8, 7, 8, api.TooHigh, -1},
		{6, 7, 7, api.Done, 0},
		{255, 255, 255, api.Done, 0},
		{255, 254, 255, api.TooHigh, -1},
	} {
		for _, n := range []int{-1, 0, 9} {
			k := begin(t, ceiling(c.top, workers(1, api.Thread{Base: c.base, Code: code{lock(0, n)}})))
			answers(t, k, 0, 0, 0, c.want)
			owners(t, k, c.owner)
			looks(t, k, 0, api.View{State: api.Running, Base: c.base, Level: c.level, At: 1, Last: c.want, Released: 1})
		}
	}
}

// P12: TooHigh asks for the Base, not for a Level that is lent.
func TestTooHighByBase(t *testing.T) {
	k := begin(t, ceiling(3, inherit(1, workers(2,
		api.Thread{Base: 2, Code: code{lock(0, -1), lock(1, 0)}},
		api.Thread{Base: 9, Code: code{lock(0, -1)}},
	))))
	runs(t, k, 1, 0)
	picks(t, k, 1, 0, 0)
	rests(t, k, 0, 1, 0)
	levels(t, k, 9, 9)
	picks(t, k, 1, 0, 1)
	owners(t, k, 0, 0)
	levels(t, k, 9, 9)
}

// P12: TooHigh is told ahead of Cycle, and ahead of a wait of any length.
func TestTooHighAhead(t *testing.T) {
	for _, n := range []int{-1, 0, 4} {
		k := begin(t, ceiling(4, inherit(1, workers(3,
			api.Thread{Base: 4, Code: code{lock(1, -1), lock(0, -1)}},
			api.Thread{Base: 4, Code: code{lock(0, -1), prio(1, 5), lock(1, n)}},
			api.Thread{Base: 6, Code: code{lock(1, n)}},
		))))
		runs(t, k, 2, 0, 1)
		picks(t, k, 1, 0, 0)
		picks(t, k, 2, 1, 0)
		answers(t, k, 0, 2, 0, api.TooHigh)
		rests(t, k, 1, 0, 1)
		picks(t, k, 2, 1, 1)
		answers(t, k, 2, 1, 2, api.TooHigh)
		lines(t, k, 1)
		owners(t, k, 1, 0)
	}
}

// P12: a Lock that may not wait ends at once, and leaves no trace: no wait, no
// ticket, nothing lent.
func TestLockWithoutWait(t *testing.T) {
	k := begin(t, inherit(1, workers(2,
		api.Thread{Base: 3, Code: code{lock(0, -1), work}},
		api.Thread{Base: 3, Code: code{lock(0, 0), work}},
		api.Thread{Base: 3, Code: code{work}},
	)))
	picks(t, k, 0, 0, 0)
	answers(t, k, 1, 1, 0, api.TimedOut)
	runs(t, k, 0, 1)
	looks(t, k, 1, api.View{State: api.Running, Base: 3, Level: 3, At: 1, Last: api.TimedOut, Released: 1})
	lines(t, k, 0)
	owners(t, k, 0)
	picks(t, k, 1, 1, 1)
}

// P12, P9: how long a Lock waits.
func TestLockWaits(t *testing.T) {
	for _, n := range []int{-1, 1, 2, 1000} {
		until := 6 + n
		if n == -1 {
			until = -1
		}
		set := inherit(3, workers(2, api.Thread{Base: 4, Code: code{lock(2, -1), when(0, 1)}}, api.Thread{Base: 2, Code: code{lock(2, n), when(2, 0)}}))
		set.Start = 5
		k := begin(t, set)
		picks(t, k, 0, 0, 0)
		ticks(t, k)
		rests(t, k, 1, 1, 0)
		for i := 0; i < n || n == -1 && i < 1100; i++ {
			runs(t, k, 0, -1)
			looks(t, k, 1, api.View{State: api.Blocked, Base: 2, Level: 2, At: 1, Last: api.Waits, Released: 1, For: api.ForMutex, Of: 2, Until: until})
			lines(t, k, 2, 1)
			picks(t, k, 0, 0, 1)
			ticks(t, k)
		}
		if n == -1 {
			continue
		}
		runs(t, k, 0, 1)
		looks(t, k, 1, api.View{State: api.Running, Base: 2, Level: 2, At: 1, Last: api.TimedOut, Released: 1})
		lines(t, k, 2)
		owners(t, k, -1, -1, 0)
		picks(t, k, 1, 1, 1)
		rests(t, k, 1, 1, 0)
	}
}

// P12: two threads that would wait for each other; the document's example.
func TestCycleOfTwo(t *testing.T) {
	for _, n := range []int{-1, 0, 3} {
		k := begin(t, inherit(2, workers(2,
			api.Thread{Base: 4, Code: code{lock(0, -1), lock(1, -1)}},
			api.Thread{Base: 4, Code: code{lock(1, -1), lock(0, n)}},
		)))
		picks(t, k, 0, 0, 0)
		picks(t, k, 1, 1, 0)
		rests(t, k, 0, 0, 1)
		runs(t, k, -1, 1)
		answers(t, k, 1, 1, 1, api.Cycle)
		runs(t, k, -1, 1)
		looks(t, k, 1, api.View{State: api.Running, Base: 4, Level: 4, At: 2, Last: api.Cycle, Released: 1})
		lines(t, k, 0)
		lines(t, k, 1, 0)
		owners(t, k, 0, 1)
		picks(t, k, 1, 1, 2)
		owners(t, k, 0, 0)
		runs(t, k, 0, -1)
	}
}

// ring: threads that each own the mutex of their number and want the next one.
// The first mutexes are Inherit ones, the others Ceiling ones.
func ring(n int, inherits int) api.Set {
	set := inherit(inherits, workers(n))
	for i := 0; i < n; i++ {
		set.Threads = append(set.Threads, api.Thread{Base: 4, Code: code{lock(i, -1), lock((i+1)%n, -1)}})
		if i >= inherits {
			set = ceiling(4, set)
		}
	}
	return set
}

// P12: cycles of every length, over mutexes of both kinds: the last thread alone
// would close them. When it ends the others go on, one behind the other.
func TestCycleOfMany(t *testing.T) {
	for n := 2; n <= 8; n++ {
		for inherits := 0; inherits <= n; inherits++ {
			k := begin(t, ring(n, inherits))
			for i := 0; i < n; i++ {
				picks(t, k, i, i, 0)
			}
			for i := 0; i < n-1; i++ {
				rests(t, k, i, i, 1)
			}
			answers(t, k, n-1, n-1, 1, api.Cycle)
			lines(t, k, 0)
			picks(t, k, n-1, n-1, 2)
			for i := n - 2; i >= 0; i-- {
				lines(t, k, i+1)
				owners(t, k, 0)
				picks(t, k, 0, i, 2)
			}
			for m := 0; m < n; m++ {
				if owner, err := k.Owner(m); owner != -1 || err != api.OK {
					t.Errorf("P7: Owner(%d) = %d, %d behind all Ends", m, owner, err)
				}
			}
		}
	}
}

// P12: a chain that does not lead back is no cycle, be its last one awake,
// asleep, or waiting for another mutex of the thread's neighbours.
func TestChainIsNoCycle(t *testing.T) {
	k := begin(t, inherit(3, workers(4,
		api.Thread{Base: 4, Code: code{lock(0, -1), sleep(9)}},
		api.Thread{Base: 4, Code: code{lock(1, -1), lock(0, -1)}},
		api.Thread{Base: 4, Code: code{lock(2, -1), lock(1, -1)}},
		api.Thread{Base: 4, Code: code{lock(2, 0), lock(2, -1)}},
	)))
	for i := 0; i < 3; i++ {
		picks(t, k, i, i, 0)
	}
	answers(t, k, 3, 3, 0, api.TimedOut)
	for i := 0; i < 4; i++ {
		rests(t, k, i, i, 1)
	}
	lines(t, k, 0, 1)
	lines(t, k, 1, 2)
	lines(t, k, 2, 3)
}

// P12: a wait that ended in time leads nowhere any more.
func TestEndedWaitIsNoCycle(t *testing.T) {
	k := begin(t, inherit(2, workers(2,
		api.Thread{Base: 4, Code: code{lock(0, -1), lock(1, 1), work}},
		api.Thread{Base: 4, Code: code{lock(1, -1), lock(0, -1), lock(0, 7)}},
	)))
	picks(t, k, 0, 0, 0)
	picks(t, k, 1, 1, 0)
	rests(t, k, 0, 0, 1)
	answers(t, k, 1, 1, 1, api.Cycle)
	ticks(t, k)
	runs(t, k, 0, 1)
	rests(t, k, 1, 1, 2)
	lines(t, k, 0, 1)
}

// P10: waits for mutexes end in time, in the order in which they began, among
// the sleeps.
func TestLocksTimeOutInOrder(t *testing.T) {
	k := begin(t, inherit(2, workers(5,
		api.Thread{Base: 4, Code: code{lock(0, -1), lock(1, -1), sleep(3)}},
		api.Thread{Base: 4, Code: code{lock(0, 2)}},
		api.Thread{Base: 4, Code: code{sleep(2)}},
		api.Thread{Base: 4, Code: code{lock(1, 1)}},
		api.Thread{Base: 4, Code: code{lock(0, 1)}},
	)))
	picks(t, k, 0, 0, 0)
	picks(t, k, 0, 0, 1)
	rests(t, k, 2, 2, 0)
	rests(t, k, 1, 1, 0)
	rests(t, k, 0, 0, 2)
	ticks(t, k)
	rests(t, k, 4, 4, 0)
	rests(t, k, 3, 3, 0)
	runs(t, k, -1, -1, -1, -1, -1)
	ticks(t, k)
	runs(t, k, 2, 1, 4, 3, -1)
	looks(t, k, 2, api.View{State: api.Running, Base: 4, Level: 4, At: 1, Released: 1})
	looks(t, k, 4, api.View{State: api.Running, Base: 4, Level: 4, At: 1, Last: api.TimedOut, Released: 1})
	owners(t, k, 0, 0)
	lines(t, k, 0)
}
