package donate

import "donate/api"

// mutex: one mutex of a kernel.
type mutex struct {
	kind  int
	top   int
	owner int // a thread, or none
}

func newMutexes(given []api.Mutex) []mutex {
	mutexes := make([]mutex, len(given))
	for m, from := range given {
		mutexes[m] = mutex{kind: from.Kind, top: from.Top, owner: none}
	}
	return mutexes
}

// lock makes thread t the owner of mutex m, or lets it wait for m.
func (k *Kernel) lock(t int, m int, ticks int) api.Code {
	owner := k.mutexes[m].owner
	switch {
	case owner == t:
		return api.Relock
	case k.tooHigh(t, m):
		return api.TooHigh
	case owner == none:
		k.mutexes[m].owner = t
		return api.Done
	case k.leadsTo(owner, t):
		return api.Cycle
	}
	return k.waitFor(t, api.ForMutex, m, ticks)
}

// tooHigh asks for the Base alone: a level that is lent bars no thread.
func (k *Kernel) tooHigh(t int, m int) bool {
	return k.mutexes[m].kind == api.Ceiling && k.threads[t].base > k.mutexes[m].top
}

// leadsTo tells whether thread t is met on the way from a thread to the owner
// of the mutex that it waits for, and so on. The way has an end, because no
// thread begins a wait that would close it.
func (k *Kernel) leadsTo(from int, t int) bool {
	met := from
	for met != none && met != t {
		met = k.ownerAhead(met)
	}
	return met == t
}

// ownerAhead tells who owns the mutex that thread t waits for, or none.
func (k *Kernel) ownerAhead(t int) int {
	if k.threads[t].wait.what != api.ForMutex {
		return none
	}
	return k.mutexes[k.threads[t].wait.of].owner
}

// borrower tells to whom thread t lends its level, or none.
func (k *Kernel) borrower(t int) int {
	owner := k.ownerAhead(t)
	if owner == none || k.mutexes[k.threads[t].wait.of].kind != api.Inherit {
		return none
	}
	return owner
}

func (k *Kernel) unlock(t int, m int) api.Code {
	if k.mutexes[m].owner != t {
		return api.NotOwner
	}
	next := k.give(api.ForMutex, m)
	k.mutexes[m].owner = next
	return api.Done
}

// unlockAll unlocks, by their numbers, the mutexes that thread t owns. The
// others are refused, and stay as they are.
func (k *Kernel) unlockAll(t int) {
	for m := range k.mutexes {
		k.unlock(t, m)
	}
}
