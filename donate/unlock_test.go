package donate_test

import (
	"testing"

	"donate/api"
)

// P12: who does not own a mutex does not unlock it, be it free, another's, or
// one that was waited for in vain.
func TestUnlockNotOwner(t *testing.T) {
	k := begin(t, inherit(2, workers(2,
		api.Thread{Base: 4, Code: code{lock(0, -1), unlock(1), unlock(0), unlock(0)}},
		api.Thread{Base: 4, Code: code{unlock(0), lock(0, 1), unlock(0)}},
	)))
	picks(t, k, 0, 0, 0)
	answers(t, k, 0, 0, 1, api.NotOwner)
	answers(t, k, 1, 1, 0, api.NotOwner)
	looks(t, k, 1, api.View{State: api.Running, Base: 4, Level: 4, At: 1, Last: api.NotOwner, Released: 1})
	owners(t, k, 0, -1)
	rests(t, k, 1, 1, 1)
	ticks(t, k)
	answers(t, k, 1, 1, 2, api.NotOwner)
	owners(t, k, 0, -1)
	picks(t, k, 0, 0, 2)
	answers(t, k, 0, 0, 3, api.NotOwner)
	owners(t, k, -1, -1)
}

// P12: mutexes may be unlocked in any order; the others stay owned.
func TestUnlockInAnyOrder(t *testing.T) {
	for _, order := range [][3]int{{0, 1, 2}, {0, 2, 1}, {1, 0, 2}, {1, 2, 0}, {2, 0, 1}, {2, 1, 0}} {
		own := code{lock(0, -1), lock(1, -1), lock(2, -1), unlock(order[0]), unlock(order[1]), unlock(order[2])}
		k := begin(t, inherit(3, workers(1, api.Thread{Base: 4, Code: own})))
		want := []int{-1, -1, -1}
		for at := 0; at < 6; at++ {
			picks(t, k, 0, 0, at)
			if at < 3 {
				want[at] = 0
			} else {
				want[order[at-3]] = -1
			}
			owners(t, k, want...)
		}
	}
}

// P12, P9: who is given a mutex owns it, is awake, and has Last Done; its time
// no longer counts.
func TestGiven(t *testing.T) {
	k := begin(t, inherit(1, workers(2,
		api.Thread{Base: 4, Code: code{lock(0, -1), unlock(0), lock(0, 0)}},
		api.Thread{Base: 3, Code: code{lock(0, 2), work, unlock(0)}},
	)))
	picks(t, k, 0, 0, 0)
	rests(t, k, 1, 1, 0)
	runs(t, k, 0, -1)
	ticks(t, k)
	picks(t, k, 0, 0, 1)
	runs(t, k, 0, 1)
	owners(t, k, 1)
	lines(t, k, 0)
	looks(t, k, 1, api.View{State: api.Running, Base: 3, Level: 3, At: 1, Released: 1})
	ticks(t, k)
	ticks(t, k)
	looks(t, k, 1, api.View{State: api.Running, Base: 3, Level: 3, At: 1, Released: 1})
	owners(t, k, 1)
	answers(t, k, 0, 0, 2, api.TimedOut)
	picks(t, k, 1, 1, 1)
	picks(t, k, 1, 1, 2)
	owners(t, k, -1)
}

// P12, P8: of one level the one that began to wait first is given the mutex,
// whatever its number and its ticket; one at a time.
func TestGivenInTurn(t *testing.T) {
	own := code{lock(0, -1), unlock(0)}
	k := begin(t, inherit(1, workers(4, api.Thread{Base: 3, Code: own}, api.Thread{Base: 3, Code: own}, api.Thread{Base: 3, Code: own}, api.Thread{Base: 3, Code: own})))
	picks(t, k, 2, 2, 0)
	rests(t, k, 3, 3, 0)
	rests(t, k, 0, 0, 0)
	rests(t, k, 1, 1, 0)
	lines(t, k, 0, 3, 0, 1)
	picks(t, k, 2, 2, 1)
	owners(t, k, 3)
	lines(t, k, 0, 0, 1)
	runs(t, k, 3, -1, 2, -1)
	picks(t, k, 0, 3, 1)
	owners(t, k, 0)
	lines(t, k, 0, 1)
	runs(t, k, 3, 0, 2, -1)
	picks(t, k, 1, 0, 1)
	owners(t, k, 1)
	lines(t, k, 0)
	runs(t, k, 3, 0, 2, 1)
}

// P12: a wait that begins anew stands behind those that began meanwhile.
func TestGivenByLastWait(t *testing.T) {
	k := begin(t, inherit(1, workers(3,
		api.Thread{Base: 3, Code: code{lock(0, -1)}},
		api.Thread{Base: 3, Code: code{lock(0, 1), lock(0, -1)}},
		api.Thread{Base: 3, Code: code{lock(0, -1)}},
	)))
	picks(t, k, 0, 0, 0)
	rests(t, k, 1, 1, 0)
	rests(t, k, 2, 2, 0)
	lines(t, k, 0, 1, 2)
	ticks(t, k)
	rests(t, k, 1, 1, 1)
	lines(t, k, 0, 2, 1)
	picks(t, k, 0, 0, 1)
	owners(t, k, 2)
}

// P12, P8: the greatest level is given first, as levels are then: that of
// thread 1 is lent by thread 4, and that of thread 3 was lowered while it waits.
func TestGivenByLevel(t *testing.T) {
	k := begin(t, inherit(2, workers(5,
		api.Thread{Base: 1, Code: code{lock(0, -1), prio(3, 2), unlock(0)}},
		api.Thread{Base: 1, Code: code{lock(1, -1), lock(0, -1), unlock(1), unlock(0)}},
		api.Thread{Base: 5, Code: code{lock(0, -1), unlock(0)}},
		api.Thread{Base: 9, Code: code{lock(0, -1), unlock(0)}},
		api.Thread{Base: 7, Code: code{lock(1, -1)}},
	)))
	runs(t, k, 3, 4, 2, 0, 1)
	picks(t, k, 3, 0, 0)
	picks(t, k, 4, 1, 0)
	rests(t, k, 0, 3, 0)
	rests(t, k, 2, 2, 0)
	rests(t, k, 4, 1, 1)
	lines(t, k, 0, 3, 2, 1)
	rests(t, k, 1, 4, 0)
	levels(t, k, 9, 7, 5, 9, 7)
	lines(t, k, 0, 3, 1, 2)
	picks(t, k, 3, 0, 1)
	levels(t, k, 7, 7, 5, 2, 7)
	lines(t, k, 0, 1, 2, 3)
	picks(t, k, 3, 0, 2)
	owners(t, k, 1, 1)
	levels(t, k, 1, 7, 5, 2, 7)
	picks(t, k, 0, 1, 2)
	owners(t, k, 1, 4)
	levels(t, k, 1, 5, 5, 2, 7)
	picks(t, k, 0, 1, 3)
	owners(t, k, 2, 4)
	lines(t, k, 0, 3)
	levels(t, k, 1, 1, 5, 2, 7)
}

// P12: who is given a mutex draws a ticket: those of its level that were awake
// go ahead of it.
func TestGivenDrawsTicket(t *testing.T) {
	k := begin(t, inherit(1, workers(1,
		api.Thread{Base: 5, Code: code{lock(0, -1), yield, unlock(0), yield}},
		api.Thread{Base: 5, Code: code{lock(0, -1)}},
		api.Thread{Base: 5, Code: code{work}},
	)))
	picks(t, k, 0, 0, 0)
	picks(t, k, 0, 0, 1)
	rests(t, k, 0, 1, 0)
	picks(t, k, 0, 2, 0)
	runs(t, k, 2)
	picks(t, k, 0, 2, 1)
	picks(t, k, 0, 0, 2)
	runs(t, k, 0)
	picks(t, k, 0, 0, 3)
	runs(t, k, 1)
}

// P12: the new owner of a Ceiling mutex is lent its Top at once, be its Base
// above that by now or not.
func TestGivenCeiling(t *testing.T) {
	k := begin(t, ceiling(6, workers(3,
		api.Thread{Base: 1, Code: code{lock(0, -1), prio(2, 9), unlock(0)}},
		api.Thread{Base: 2, Code: code{lock(0, -1), unlock(0)}},
		api.Thread{Base: 1, Code: code{lock(0, -1), unlock(0), lock(0, 0)}},
	)))
	runs(t, k, 1, 0, 2)
	picks(t, k, 1, 0, 0)
	levels(t, k, 6, 2, 1)
	rests(t, k, 0, 1, 0)
	rests(t, k, 2, 2, 0)
	levels(t, k, 6, 2, 1)
	lines(t, k, 0, 1, 2)
	picks(t, k, 1, 0, 1)
	levels(t, k, 6, 2, 9)
	lines(t, k, 0, 2, 1)
	picks(t, k, 1, 0, 2)
	owners(t, k, 2)
	levels(t, k, 1, 2, 9)
	picks(t, k, 0, 2, 1)
	owners(t, k, 1)
	levels(t, k, 1, 6, 9)
	answers(t, k, 0, 2, 2, api.TooHigh)
}

// P7, P12: an End unlocks what its thread owns, by the mutexes' numbers, and
// nothing that others own. Those who are given them draw tickets in that order.
func TestEndUnlocksByNumber(t *testing.T) {
	k := begin(t, inherit(5, workers(6,
		api.Thread{Base: 1, Code: code{lock(3, -1), lock(0, -1), lock(2, -1), lock(4, -1), end}},
		api.Thread{Base: 1, Code: code{lock(1, -1)}},
		api.Thread{Base: 4, Code: code{sleep(1), lock(3, -1)}},
		api.Thread{Base: 4, Code: code{sleep(1), lock(2, -1)}},
		api.Thread{Base: 4, Code: code{sleep(1), lock(0, -1)}},
		api.Thread{Base: 3, Code: code{sleep(1), lock(1, -1)}},
	)))
	runs(t, k, 2, 3, 4, 5, 0, 1)
	for at := 0; at < 4; at++ {
		picks(t, k, 4, 0, at)
		rests(t, k, at, at+2, 0)
	}
	picks(t, k, 5, 1, 0)
	ticks(t, k)
	runs(t, k, 2, 3, 4, 5, 0, 1)
	for w := 0; w < 4; w++ {
		rests(t, k, w, w+2, 1)
	}
	owners(t, k, 0, 1, 0, 0, 0)
	levels(t, k, 4, 3)
	picks(t, k, 4, 0, 4)
	owners(t, k, 4, 1, 3, 2, -1)
	levels(t, k, 1, 3)
	runs(t, k, 4, 3, 2, -1, -1, 1)
	lines(t, k, 1, 5)
}

// P7: an End whose thread has another job draws its ticket behind those to whom
// its mutexes are given; the next job begins without them.
func TestEndThenNextJob(t *testing.T) {
	k := begin(t, inherit(2, workers(1,
		api.Thread{Base: 5, Period: 1, Code: code{lock(0, -1), lock(1, -1), yield}},
		api.Thread{Base: 5, Code: code{lock(1, -1), work}},
		api.Thread{Base: 5, Code: code{lock(0, -1), work}},
	)))
	picks(t, k, 0, 0, 0)
	picks(t, k, 0, 0, 1)
	picks(t, k, 0, 0, 2)
	rests(t, k, 0, 1, 0)
	rests(t, k, 0, 2, 0)
	ticks(t, k)
	picks(t, k, 0, 0, 3)
	owners(t, k, 2, 1)
	looks(t, k, 0, api.View{State: api.Ready, Base: 5, Level: 5, Released: 2, Ended: 1})
	picks(t, k, 0, 2, 1)
	picks(t, k, 0, 2, 2)
	picks(t, k, 0, 1, 1)
	picks(t, k, 0, 1, 2)
	picks(t, k, 0, 0, 0)
	owners(t, k, 0, -1)
}
