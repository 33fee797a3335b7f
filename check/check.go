// Package check tells whether a set may be (P3).
package check

import "donate/api"

// Fault: why a set may not be, and where. Its Err is OK where the set may be.
type Fault struct {
	Err   api.Errno
	Place int
}

// none stands for the number of a bad entry where all are good.
const none = -1

// threadStep is how far apart the places of two threads' instructions are.
const threadStep = 100

// Set tells the first fault of a set, in the order that the document names.
func Set(set api.Set) Fault {
	if !sizesFit(set) {
		return Fault{Err: api.ErrSize}
	}
	mutex := firstBadMutex(set.Mutexes)
	if mutex != none {
		return Fault{Err: api.ErrMutex, Place: mutex}
	}
	sem := firstBadSem(set.Sems)
	if sem != none {
		return Fault{Err: api.ErrSem, Place: sem}
	}
	queue := firstBadQueue(set.Queues)
	if queue != none {
		return Fault{Err: api.ErrQueue, Place: queue}
	}
	thread := firstBadThread(set.Threads)
	if thread != none {
		return Fault{Err: api.ErrThread, Place: thread}
	}
	instr := firstBadInstr(set)
	if instr != none {
		return Fault{Err: api.ErrCode, Place: instr}
	}
	return Fault{}
}

func sizesFit(set api.Set) bool {
	if set.Workers < 1 || set.Workers > api.MaxWorkers {
		return false
	}
	if set.Start < 0 || set.Start > api.MaxTime {
		return false
	}
	if len(set.Threads) < 1 || len(set.Threads) > api.MaxThreads {
		return false
	}
	return len(set.Mutexes) <= api.MaxMutexes && len(set.Sems) <= api.MaxSems && len(set.Queues) <= api.MaxQueues
}

func firstBadMutex(mutexes []api.Mutex) int {
	for i, mutex := range mutexes {
		if !mutexFits(mutex) {
			return i
		}
	}
	return none
}

func mutexFits(mutex api.Mutex) bool {
	switch mutex.Kind {
	case api.Inherit:
		return mutex.Top == 0
	case api.Ceiling:
		return mutex.Top >= 0 && mutex.Top <= api.MaxPrio
	}
	return false
}

func firstBadSem(sems []api.Sem) int {
	for i, sem := range sems {
		if sem.Most < 1 || sem.Most > api.MaxCount || sem.First < 0 || sem.First > sem.Most {
			return i
		}
	}
	return none
}

func firstBadQueue(rooms []int) int {
	for i, room := range rooms {
		if room < 1 || room > api.MaxRoom {
			return i
		}
	}
	return none
}

func firstBadThread(threads []api.Thread) int {
	for i, thread := range threads {
		if !threadFits(thread) {
			return i
		}
	}
	return none
}

func threadFits(thread api.Thread) bool {
	if thread.Base < 0 || thread.Base > api.MaxPrio {
		return false
	}
	if thread.Offset < 0 || thread.Offset > api.MaxPeriod {
		return false
	}
	if thread.Period < 0 || thread.Period > api.MaxPeriod {
		return false
	}
	latest := thread.Period
	if latest == 0 {
		latest = api.MaxPeriod
	}
	if thread.Deadline < 0 || thread.Deadline > latest {
		return false
	}
	return len(thread.Code) <= api.MaxCode
}
