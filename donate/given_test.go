package donate_test

import (
	"testing"

	"donate/api"
)

// things: what is waited for beside mutexes, and how it is taken and given.
var things = []struct {
	what int
	take func(i int, ticks int) api.Instr
	give func(i int) api.Instr
}{
	{api.ForSem, down, up},
	{api.ForQueue, recv, func(q int) api.Instr { return send(q, 9) }},
}

// bare: a set with two semaphores that count 0 and two queues that are empty.
func bare(set api.Set) api.Set {
	return roomFor(1, roomFor(1, counting(0, 1, counting(0, 1, set))))
}

// P14, P15: what may not wait ends at once, and leaves no trace: no wait, no
// ticket.
func TestTakeWithoutWait(t *testing.T) {
	for _, thing := range things {
		k := begin(t, bare(workers(1, api.Thread{Base: 3, Code: code{thing.take(0, 0), work}}, api.Thread{Base: 3})))
		answers(t, k, 0, 0, 0, api.TimedOut)
		runs(t, k, 0)
		looks(t, k, 0, api.View{State: api.Running, Base: 3, Level: 3, At: 1, Last: api.TimedOut, Released: 1})
		linesFor(t, k, thing.what, 0)
		counts(t, k, 0)
		holds(t, k, 0)
	}
}

// P9, P10, P14, P15: how long a Down and a Recv wait.
func TestTakeWaits(t *testing.T) {
	for _, thing := range things {
		for _, n := range []int{-1, 1, 2, 1000} {
			until := 6 + n
			if n == -1 {
				until = -1
			}
			set := bare(workers(2, api.Thread{Base: 4}, api.Thread{Base: 2, Code: code{thing.take(1, n), when(2, 3), end, work}}))
			set.Start = 5
			k := begin(t, set)
			ticks(t, k)
			rests(t, k, 1, 1, 0)
			for i := 0; i < n || n == -1 && i < 1100; i++ {
				runs(t, k, 0, -1)
				looks(t, k, 1, api.View{State: api.Blocked, Base: 2, Level: 2, At: 1, Last: api.Waits, Released: 1, For: thing.what, Of: 1, Until: until})
				linesFor(t, k, thing.what, 1, 1)
				ticks(t, k)
			}
			if n == -1 {
				continue
			}
			runs(t, k, 0, 1)
			looks(t, k, 1, api.View{State: api.Running, Base: 2, Level: 2, At: 1, Last: api.TimedOut, Released: 1})
			linesFor(t, k, thing.what, 1)
			picks(t, k, 1, 1, 1)
			picks(t, k, 1, 1, 3)
		}
	}
}

// P13, P14, P15: one thread is given what comes: the one with the greatest level,
// of one level the one that began first, whatever its number and its ticket.
func TestGivenOneByOne(t *testing.T) {
	for _, thing := range things {
		give := thing.give(0)
		wants := func(base int) api.Thread {
			return api.Thread{Base: base, Code: code{thing.take(0, -1), sleep(9)}}
		}
		k := begin(t, bare(workers(6,
			api.Thread{Base: 9, Code: code{give, give, prio(1, 8), give, give, give}},
			wants(2), wants(5), wants(2), wants(5), wants(2),
		)))
		runs(t, k, 0, 2, 4, 1, 3, 5)
		for _, w := range []int{5, 2, 4, 1, 3} {
			rests(t, k, w, []int{0, 2, 4, 1, 3, 5}[w], 0)
		}
		linesFor(t, k, thing.what, 0, 4, 2, 5, 3, 1)
		picks(t, k, 0, 0, 0)
		runs(t, k, 0, 4, -1, -1, -1, -1)
		linesFor(t, k, thing.what, 0, 2, 5, 3, 1)
		picks(t, k, 0, 0, 1)
		runs(t, k, 0, 4, 2, -1, -1, -1)
		picks(t, k, 0, 0, 2)
		linesFor(t, k, thing.what, 0, 1, 5, 3)
		for at := 3; at < 6; at++ {
			picks(t, k, 0, 0, at)
		}
		runs(t, k, 0, 4, 2, 1, 5, 3)
		counts(t, k, 0)
		holds(t, k, 0)
	}
}

// P8, P14, P15: a level that is lent counts, not the Base; as it is then.
func TestGivenByLentLevel(t *testing.T) {
	for _, thing := range things {
		for _, ended := range []bool{false, true} {
			k := begin(t, bare(inherit(1, workers(4,
				api.Thread{Base: 2, Code: code{lock(0, -1), thing.take(0, -1)}},
				api.Thread{Base: 3, Code: code{thing.take(0, -1)}},
				api.Thread{Base: 7, Code: code{lock(0, 1)}},
				api.Thread{Base: 9, Code: code{thing.give(0)}},
			))))
			runs(t, k, 3, 2, 1, 0)
			picks(t, k, 3, 0, 0)
			rests(t, k, 2, 1, 0)
			rests(t, k, 3, 0, 1)
			linesFor(t, k, thing.what, 0, 1, 0)
			rests(t, k, 1, 2, 0)
			levels(t, k, 7, 3, 7, 9)
			linesFor(t, k, thing.what, 0, 0, 1)
			left := 1
			if ended {
				ticks(t, k)
				left = 0
			}
			picks(t, k, 0, 3, 0)
			linesFor(t, k, thing.what, 0, left)
		}
	}
}

// P14, P15: who is given what it waits for draws a ticket: those of its level
// that were awake go ahead of it.
func TestGivenBehindAwake(t *testing.T) {
	for _, thing := range things {
		k := begin(t, bare(workers(1,
			api.Thread{Base: 5, Code: code{thing.take(0, -1), work}},
			api.Thread{Base: 5, Code: code{thing.give(0), yield}},
			api.Thread{Base: 5},
		)))
		rests(t, k, 0, 0, 0)
		picks(t, k, 0, 1, 0)
		runs(t, k, 1)
		picks(t, k, 0, 1, 1)
		picks(t, k, 0, 2, 0)
		runs(t, k, 0)
	}
}

// P8, P12: who waits for a semaphore or a queue lends nothing to the owner of
// the mutex with the same number, and closes no cycle over it.
func TestOnlyMutexesLend(t *testing.T) {
	for _, thing := range things {
		k := begin(t, bare(inherit(2, workers(3,
			api.Thread{Base: 2, Code: code{lock(0, -1), lock(1, -1)}},
			api.Thread{Base: 7, Code: code{lock(1, -1), thing.take(0, -1)}},
			api.Thread{Base: 8, Code: code{thing.take(0, -1)}},
		))))
		runs(t, k, 2, 1, 0)
		picks(t, k, 2, 0, 0)
		picks(t, k, 1, 1, 0)
		rests(t, k, 1, 1, 1)
		rests(t, k, 0, 2, 0)
		levels(t, k, 2, 7, 8)
		lines(t, k, 0)
		rests(t, k, 2, 0, 1)
		levels(t, k, 2, 7, 8)
		lines(t, k, 1, 0)
	}
}

// P13, P14, P15: a mutex, a semaphore and a queue of one number, and others of
// their kind, are each waited for and given apart.
func TestThingsAreApart(t *testing.T) {
	k := begin(t, bare(inherit(2, workers(7,
		api.Thread{Base: 9, Code: code{lock(0, -1), lock(1, -1), up(1), send(1, 8), unlock(1)}},
		api.Thread{Base: 5, Code: code{lock(0, -1)}},
		api.Thread{Base: 5, Code: code{down(0, -1)}},
		api.Thread{Base: 5, Code: code{recv(0, -1)}},
		api.Thread{Base: 4, Code: code{lock(1, -1)}},
		api.Thread{Base: 4, Code: code{down(1, -1)}},
		api.Thread{Base: 4, Code: code{recv(1, -1)}},
	))))
	picks(t, k, 0, 0, 0)
	picks(t, k, 0, 0, 1)
	for w := 1; w < 7; w++ {
		rests(t, k, w, w, 0)
	}
	for i := 0; i < 3; i++ {
		linesFor(t, k, api.ForMutex+i, 0, 1+i)
		linesFor(t, k, api.ForMutex+i, 1, 4+i)
	}
	picks(t, k, 0, 0, 2)
	linesFor(t, k, api.ForSem, 1)
	picks(t, k, 0, 0, 3)
	linesFor(t, k, api.ForQueue, 1)
	gots(t, k, 0, 0, 0, 0, 0, 0, 8)
	lines(t, k, 1, 4)
	picks(t, k, 0, 0, 4)
	lines(t, k, 1)
	for i := 0; i < 3; i++ {
		linesFor(t, k, api.ForMutex+i, 0, 1+i)
	}
	runs(t, k, 0, 5, 6, 4, -1, -1, -1)
}
