// Package donate: threads that share workers, and lend each other their urgency: see DOC.md.
package donate

import (
	"donate/api"
	"donate/check"
)

// Kernel is a set at work.
type Kernel struct {
	now     int
	threads []thread
	mutexes []mutex
	sems    []sem
	queues  []queue
	workers []int // by worker the thread that runs on it, or none
	tickets []int // all threads, in the order of the last tickets that they drew
	waiters []int // the threads that wait, in the order in which they began to
	misses  []api.Miss
}

// Check tells whether a set may be, and where it may not (P3).
func Check(set api.Set) (api.Errno, int) {
	fault := check.Set(set)
	return fault.Err, fault.Place
}

// New makes a kernel (P4).
func New(set api.Set) (*Kernel, api.Errno) {
	fault := check.Set(set)
	if fault.Err != api.OK {
		return nil, fault.Err
	}
	threads := newThreads(set.Threads, set.Start)
	mutexes := newMutexes(set.Mutexes)
	sems := newSems(set.Sems)
	queues := newQueues(set.Queues)
	workers := freeWorkers(set.Workers)
	tickets := firstTickets(len(set.Threads))
	k := &Kernel{
		now:     set.Start,
		threads: threads,
		mutexes: mutexes,
		sems:    sems,
		queues:  queues,
		workers: workers,
		tickets: tickets,
	}
	k.releaseJobs()
	k.giveOutWorkers()
	return k, api.OK
}

// Pick lets a worker do one instruction (P7).
func (k *Kernel) Pick(w int) (api.Report, api.Errno) {
	if w < 0 || w >= len(k.workers) {
		return api.Report{}, api.ErrArg
	}
	t := k.workers[w]
	if t == none {
		return api.Report{Thread: none}, api.OK
	}
	at := k.threads[t].at
	code := k.step(t)
	k.giveOutWorkers()
	return api.Report{Thread: t, At: at, Code: code}, api.OK
}

// Tick lets a unit of time go by (P10).
func (k *Kernel) Tick() ([]api.Miss, api.Errno) {
	if k.now >= api.MaxTime {
		return nil, api.ErrClock
	}
	k.now++
	missed := k.lookAtDeadlines()
	k.endDueWaits()
	k.releaseJobs()
	k.giveOutWorkers()
	return missed, api.OK
}

// Now tells the time (P10).
func (k *Kernel) Now() int { return k.now }

// Running tells by worker which thread runs on it (P6).
func (k *Kernel) Running() []int {
	return copyOf(k.workers)
}

// Look tells what can be seen of a thread (P9).
func (k *Kernel) Look(t int) (api.View, api.Errno) {
	if t < 0 || t >= len(k.threads) {
		return api.View{}, api.ErrArg
	}
	return k.view(t), api.OK
}

// Misses tells all deadlines that were missed (P11).
func (k *Kernel) Misses() []api.Miss {
	misses := make([]api.Miss, len(k.misses))
	copy(misses, k.misses)
	return misses
}

// Owner tells who owns a mutex (P13).
func (k *Kernel) Owner(m int) (int, api.Errno) {
	if m < 0 || m >= len(k.mutexes) {
		return 0, api.ErrArg
	}
	return k.mutexes[m].owner, api.OK
}

// Waiting tells who waits for a mutex, a semaphore or a queue (P13).
func (k *Kernel) Waiting(what int, i int) ([]int, api.Errno) {
	if i < 0 || i >= k.howMany(what) {
		return nil, api.ErrArg
	}
	return k.waitersInOrder(what, i), api.OK
}

// Count tells what a semaphore counts (P14).
func (k *Kernel) Count(s int) (int, api.Errno) {
	if s < 0 || s >= len(k.sems) {
		return 0, api.ErrArg
	}
	return k.sems[s].count, api.OK
}

// Messages tells what lies in a queue (P15).
func (k *Kernel) Messages(q int) ([]int, api.Errno) {
	if q < 0 || q >= len(k.queues) {
		return nil, api.ErrArg
	}
	return copyOf(k.queues[q].messages), api.OK
}

// Run plays a script over a new kernel (P16).
func Run(set api.Set, script []int) ([]api.Line, api.Errno) {
	if len(script) > api.MaxScript {
		return nil, api.ErrLong
	}
	k, err := New(set)
	if err != api.OK {
		return nil, err
	}
	return k.play(script), api.OK
}
