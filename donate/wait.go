package donate

import "donate/api"

// endless stands for a wait that no time ends.
const endless = -1

// wait: what a thread waits for. The zero wait is that of a thread that does
// not wait.
type wait struct {
	what  int
	of    int
	until int // a time, or endless
}

func (k *Kernel) waits(t int) bool {
	return k.threads[t].wait.what != api.ForNothing
}

// waitFor makes thread t wait for a thing, if it may wait at all.
func (k *Kernel) waitFor(t int, what int, of int, ticks int) api.Code {
	if ticks == 0 {
		return api.TimedOut
	}
	return k.beginWait(t, what, of, ticks)
}

// beginWait makes thread t wait for a number of ticks, or endless.
func (k *Kernel) beginWait(t int, what int, of int, ticks int) api.Code {
	until := endless
	if ticks != endless {
		until = k.now + ticks
	}
	k.threads[t].wait = wait{what: what, of: of, until: until}
	k.waiters = append(k.waiters, t)
	return api.Waits
}

// howMany tells how many there are of what may be waited for.
func (k *Kernel) howMany(what int) int {
	switch what {
	case api.ForMutex:
		return len(k.mutexes)
	case api.ForSem:
		return len(k.sems)
	case api.ForQueue:
		return len(k.queues)
	}
	return 0
}

// waitersInOrder lists those who wait for a thing, the one that would be given
// it first.
func (k *Kernel) waitersInOrder(what int, of int) []int {
	var found []int
	for _, t := range k.waiters {
		if k.threads[t].wait.what == what && k.threads[t].wait.of == of {
			found = append(found, t)
		}
	}
	return k.byLevel(found)
}

// give gives a thing to one of those who wait for it, and tells to whom, or none.
func (k *Kernel) give(what int, of int) int {
	line := k.waitersInOrder(what, of)
	if len(line) == 0 {
		return none
	}
	k.endWait(line[0], api.Done)
	return line[0]
}

// endWait makes thread t awake again; its wait ended with the given code.
func (k *Kernel) endWait(t int, code api.Code) {
	k.waiters = without(k.waiters, t)
	k.threads[t].wait = wait{}
	k.threads[t].last = code
	k.drawTicket(t)
}

// endDueWaits ends the waits whose time is now, in the order in which they
// began.
func (k *Kernel) endDueWaits() {
	due := k.dueWaiters()
	for _, t := range due {
		code := codeInTime(k.threads[t].wait.what)
		k.endWait(t, code)
	}
}

// dueWaiters makes a list of its own, because k.waiters changes while waits end.
func (k *Kernel) dueWaiters() []int {
	var due []int
	for _, t := range k.waiters {
		if k.threads[t].wait.until == k.now {
			due = append(due, t)
		}
	}
	return due
}

// codeInTime tells what a wait ends with when its time has come: only a sleep
// was meant to last that long.
func codeInTime(what int) api.Code {
	if what == api.ForTime {
		return api.Done
	}
	return api.TimedOut
}
