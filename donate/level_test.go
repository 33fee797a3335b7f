package donate_test

import (
	"testing"

	"donate/api"
)

// P8: "Urgency lent", an example of the document.
func TestUrgencyLent(t *testing.T) {
	own := code{lock(0, -1), work, unlock(0)}
	k := begin(t, inherit(1, workers(1,
		api.Thread{Base: 1, Code: own},
		api.Thread{Base: 5, Offset: 1, Code: code{work, work}},
		api.Thread{Base: 9, Offset: 1, Code: own},
	)))
	picks(t, k, 0, 0, 0)
	ticks(t, k)
	runs(t, k, 2)
	rests(t, k, 0, 2, 0)
	runs(t, k, 0)
	looks(t, k, 0, api.View{State: api.Running, Base: 1, Level: 9, At: 1, Released: 1})
	picks(t, k, 0, 0, 1)
	picks(t, k, 0, 0, 2)
	levels(t, k, 1, 5, 9)
	owners(t, k, 2)
	runs(t, k, 2)
	for at := 1; at < 4; at++ {
		picks(t, k, 0, 2, at)
	}
	runs(t, k, 1)
}

// P8: "One behind the other", an example of the document.
func TestOneBehindTheOther(t *testing.T) {
	k := begin(t, inherit(2, workers(1,
		api.Thread{Base: 1, Code: code{lock(0, -1), work}},
		api.Thread{Base: 2, Offset: 1, Code: code{lock(1, -1), lock(0, -1)}},
		api.Thread{Base: 9, Offset: 2, Code: code{lock(1, 5)}},
	)))
	picks(t, k, 0, 0, 0)
	ticks(t, k)
	picks(t, k, 0, 1, 0)
	rests(t, k, 0, 1, 1)
	levels(t, k, 2, 2, 9)
	ticks(t, k)
	rests(t, k, 0, 2, 0)
	for i := 0; i < 4; i++ {
		levels(t, k, 9, 9, 9)
		looks(t, k, 2, api.View{State: api.Blocked, Base: 9, Level: 9, At: 1, Last: api.Waits, Released: 1, For: api.ForMutex, Of: 1, Until: 7})
		ticks(t, k)
	}
	levels(t, k, 9, 9, 9)
	runs(t, k, 0)
	ticks(t, k)
	runs(t, k, 2)
	looks(t, k, 2, api.View{State: api.Running, Base: 9, Level: 9, At: 1, Last: api.TimedOut, Released: 1})
	levels(t, k, 2, 2, 9)
}

// P12, P8: "A top", an example of the document.
func TestTop(t *testing.T) {
	k := begin(t, ceiling(7, workers(1,
		api.Thread{Base: 1, Code: code{lock(0, -1), work, unlock(0)}},
		api.Thread{Base: 5, Offset: 1, Code: code{work}},
		api.Thread{Base: 8, Offset: 1, Code: code{lock(0, 0)}},
	)))
	picks(t, k, 0, 0, 0)
	levels(t, k, 7, 5, 8)
	ticks(t, k)
	answers(t, k, 0, 2, 0, api.TooHigh)
	picks(t, k, 0, 2, 1)
	runs(t, k, 0)
	picks(t, k, 0, 0, 1)
	picks(t, k, 0, 0, 2)
	levels(t, k, 1, 5, 8)
	runs(t, k, 1)
}

// chain: thread i, released at the time i, locks the mutex i and then the mutex
// i-1; the last one that of its neighbour alone.
func chain(n int) api.Set {
	set := inherit(n-1, workers(1))
	for i := 0; i < n; i++ {
		own := api.Thread{Base: i + 1, Offset: i}
		if i < n-1 {
			own.Code = append(own.Code, lock(i, -1))
		}
		if i > 0 {
			own.Code = append(own.Code, lock(i-1, -1))
		}
		set.Threads = append(set.Threads, own)
	}
	return set
}

// P8: a chain over as many mutexes as there may be: every new lender lifts all
// that are ahead of it, and when they end one behind the other all fall again.
func TestLongChain(t *testing.T) {
	const n = api.MaxMutexes + 1
	k := begin(t, chain(n))
	want := make([]int, n)
	for i := 0; i < n; i++ {
		want[i] = i + 1
	}
	picks(t, k, 0, 0, 0)
	for i := 1; i < n; i++ {
		ticks(t, k)
		at := 0
		if i < n-1 {
			picks(t, k, 0, i, 0)
			at = 1
		}
		rests(t, k, 0, i, at)
		for ahead := 0; ahead < i; ahead++ {
			want[ahead] = i + 1
		}
		levels(t, k, want...)
		runs(t, k, 0)
	}
	for i := 0; i < n-1; i++ {
		at := 2
		if i == 0 {
			at = 1
		}
		picks(t, k, 0, i, at)
		want[i] = i + 1
		levels(t, k, want...)
		runs(t, k, i+1)
	}
}

// P8: of several lenders, over one mutex or several, the greatest counts; when
// one goes the next does.
func TestGreatestLenderCounts(t *testing.T) {
	k := begin(t, inherit(2, workers(5,
		api.Thread{Base: 1, Code: code{lock(0, -1), lock(1, -1), unlock(1), unlock(0)}},
		api.Thread{Base: 3, Code: code{lock(0, -1)}},
		api.Thread{Base: 7, Code: code{lock(1, -1)}},
		api.Thread{Base: 9, Code: code{lock(0, 1)}},
		api.Thread{Base: 5, Code: code{lock(1, -1)}},
	)))
	runs(t, k, 3, 2, 4, 1, 0)
	picks(t, k, 4, 0, 0)
	picks(t, k, 4, 0, 1)
	rests(t, k, 3, 1, 0)
	levels(t, k, 3)
	rests(t, k, 1, 2, 0)
	levels(t, k, 7)
	rests(t, k, 0, 3, 0)
	levels(t, k, 9)
	rests(t, k, 2, 4, 0)
	levels(t, k, 9)
	ticks(t, k)
	levels(t, k, 7)
	picks(t, k, 4, 0, 2)
	levels(t, k, 3, 3, 7, 9, 5)
	picks(t, k, 4, 0, 3)
	levels(t, k, 1, 3, 7, 9, 5)
	owners(t, k, 1, 2)
}

// P8: who waits with a low level takes nothing from the owner's own.
func TestLowLender(t *testing.T) {
	k := begin(t, inherit(1, workers(2, api.Thread{Base: 6, Code: code{lock(0, -1), work}}, api.Thread{Base: 2, Code: code{lock(0, -1)}})))
	picks(t, k, 0, 0, 0)
	rests(t, k, 1, 1, 0)
	levels(t, k, 6, 2)
}

// P7, P8: the Base of a thread that waits may rise and fall; all who are lent
// it, and the workers, follow at once. It waits on.
func TestPrioOfWaiter(t *testing.T) {
	k := begin(t, inherit(2, workers(4,
		api.Thread{Base: 2, Code: code{lock(0, -1), work}},
		api.Thread{Base: 2, Code: code{lock(1, -1), lock(0, -1)}},
		api.Thread{Base: 2, Code: code{lock(1, 8)}},
		api.Thread{Base: 4, Code: code{prio(2, 9), prio(2, 3), prio(1, 6), prio(1, 0), prio(0, 1)}},
	)))
	runs(t, k, 3, 0, 1, 2)
	picks(t, k, 1, 0, 0)
	picks(t, k, 2, 1, 0)
	rests(t, k, 2, 1, 1)
	rests(t, k, 3, 2, 0)
	for at, want := range [][]int{{9, 9, 9}, {3, 3, 3}, {6, 6, 3}, {3, 3, 3}, {3, 3, 3}} {
		picks(t, k, 0, 3, at)
		levels(t, k, want...)
	}
	looks(t, k, 2, api.View{State: api.Blocked, Base: 3, Level: 3, At: 1, Last: api.Waits, Released: 1, For: api.ForMutex, Of: 1, Until: 8})
	looks(t, k, 1, api.View{State: api.Blocked, Level: 3, At: 2, Last: api.Waits, Released: 1, For: api.ForMutex, Until: -1})
	looks(t, k, 0, api.View{State: api.Running, Base: 1, Level: 3, At: 1, Released: 1})
}

// P5, P8: a level that rises by what another thread's base becomes takes the
// worker from a thread that has nothing to do with it.
func TestWorkersFollowLevels(t *testing.T) {
	k := begin(t, inherit(1, workers(2,
		api.Thread{Base: 1, Code: code{lock(0, -1), work}},
		api.Thread{Base: 2, Code: code{lock(0, -1)}},
		api.Thread{Base: 5, Offset: 1, Code: code{prio(1, 7), prio(1, 3), work}},
		api.Thread{Base: 4, Offset: 1, Code: code{work}},
	)))
	picks(t, k, 1, 0, 0)
	rests(t, k, 0, 1, 0)
	runs(t, k, -1, 0)
	ticks(t, k)
	runs(t, k, 2, 3)
	picks(t, k, 0, 2, 0)
	runs(t, k, 2, 0)
	looks(t, k, 3, api.View{State: api.Ready, Base: 4, Level: 4, Released: 1})
	picks(t, k, 0, 2, 1)
	runs(t, k, 2, 3)
	looks(t, k, 0, api.View{State: api.Ready, Base: 1, Level: 3, At: 1, Released: 1})
}

// P8: who waits for a Ceiling mutex lends nothing; a chain breaks there.
func TestCeilingBreaksChain(t *testing.T) {
	set := ceiling(5, inherit(1, workers(3,
		api.Thread{Base: 1, Code: code{lock(1, -1), work}},
		api.Thread{Base: 2, Code: code{lock(0, -1), lock(1, -1)}},
		api.Thread{Base: 9, Code: code{lock(0, -1)}},
	)))
	k := begin(t, set)
	runs(t, k, 2, 1, 0)
	picks(t, k, 2, 0, 0)
	picks(t, k, 1, 1, 0)
	rests(t, k, 1, 1, 1)
	rests(t, k, 0, 2, 0)
	levels(t, k, 5, 9, 9)
	lines(t, k, 1, 1)
}

// P8: the Tops of what a lender owns are lent on; the greatest of several
// counts, and a Top below the Base counts for nothing.
func TestTopIsLentOn(t *testing.T) {
	set := ceiling(3, ceiling(8, ceiling(6, inherit(1, workers(2,
		api.Thread{Base: 1, Code: code{lock(0, -1), work}},
		api.Thread{Base: 2, Code: code{lock(1, -1), lock(2, -1), lock(3, -1), unlock(2), prio(1, 7), lock(0, -1)}},
	)))))
	k := begin(t, set)
	runs(t, k, 1, 0)
	picks(t, k, 1, 0, 0)
	for at, level := range []int{6, 8, 8, 6, 7} {
		picks(t, k, 0, 1, at)
		levels(t, k, 1, level)
	}
	rests(t, k, 0, 1, 5)
	levels(t, k, 7, 7)
	owners(t, k, 0, 1, -1, 1)
}

// P8: a thread that sleeps is lent levels like any other.
func TestSleeperIsLent(t *testing.T) {
	k := begin(t, inherit(1, workers(1,
		api.Thread{Base: 3, Code: code{lock(0, -1), sleep(1)}},
		api.Thread{Base: 2, Code: code{prio(1, 9), lock(0, -1)}},
		api.Thread{Base: 5, Offset: 1},
	)))
	picks(t, k, 0, 0, 0)
	rests(t, k, 0, 0, 1)
	picks(t, k, 0, 1, 0)
	rests(t, k, 0, 1, 1)
	looks(t, k, 0, api.View{State: api.Blocked, Base: 3, Level: 9, At: 2, Last: api.Waits, Released: 1, For: api.ForTime, Until: 1})
	ticks(t, k)
	runs(t, k, 0)
	looks(t, k, 0, api.View{State: api.Running, Base: 3, Level: 9, At: 2, Released: 1})
}

// P8: a ticket does not change with its thread's level: thread 1, lifted above
// thread 0 and let down to its level, is ahead of it still.
func TestTicketOutlastsLoan(t *testing.T) {
	k := begin(t, inherit(1, workers(1,
		api.Thread{Base: 4, Offset: 1, Code: code{work, work}},
		api.Thread{Base: 1, Code: code{lock(0, -1), prio(1, 4), unlock(0), work}},
		api.Thread{Base: 5, Offset: 2, Code: code{lock(0, -1), sleep(1)}},
		api.Thread{Base: 4, Offset: 2},
	)))
	picks(t, k, 0, 1, 0)
	ticks(t, k)
	picks(t, k, 0, 0, 0)
	ticks(t, k)
	rests(t, k, 0, 2, 0)
	runs(t, k, 1)
	picks(t, k, 0, 1, 1)
	picks(t, k, 0, 1, 2)
	rests(t, k, 0, 2, 1)
	levels(t, k, 4, 4, 5, 4)
	runs(t, k, 1)
	picks(t, k, 0, 1, 3)
	picks(t, k, 0, 1, 4)
	runs(t, k, 0)
	picks(t, k, 0, 0, 1)
	picks(t, k, 0, 0, 2)
	runs(t, k, 3)
}

// P8: level with the one that lends to it, the awake owner runs ahead of those
// that drew later tickets.
func TestLoanWithinLevel(t *testing.T) {
	k := begin(t, inherit(1, workers(1,
		api.Thread{Base: 1, Code: code{lock(0, -1), work}},
		api.Thread{Base: 5, Offset: 1, Code: code{lock(0, -1)}},
		api.Thread{Base: 5, Offset: 1, Code: code{work}},
	)))
	picks(t, k, 0, 0, 0)
	ticks(t, k)
	runs(t, k, 1)
	rests(t, k, 0, 1, 0)
	levels(t, k, 5, 5, 5)
	runs(t, k, 0)
	picks(t, k, 0, 0, 1)
	picks(t, k, 0, 0, 2)
	runs(t, k, 2)
	picks(t, k, 0, 2, 0)
	picks(t, k, 0, 2, 1)
	runs(t, k, 1)
}
