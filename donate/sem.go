package donate

import "donate/api"

// sem: one semaphore of a kernel.
type sem struct {
	count int
	most  int
}

func newSems(given []api.Sem) []sem {
	sems := make([]sem, len(given))
	for s, from := range given {
		sems[s] = sem{count: from.First, most: from.Most}
	}
	return sems
}

// down lets semaphore s count one less, or thread t wait for it.
func (k *Kernel) down(t int, s int, ticks int) api.Code {
	if k.sems[s].count == 0 {
		return k.waitFor(t, api.ForSem, s, ticks)
	}
	k.sems[s].count--
	return api.Done
}

// up asks first for a thread that waits: what it is given is never counted.
func (k *Kernel) up(s int) api.Code {
	next := k.give(api.ForSem, s)
	switch {
	case next != none:
		return api.Done
	case k.sems[s].count >= k.sems[s].most:
		return api.Full
	}
	k.sems[s].count++
	return api.Done
}
