package donate

import "donate/api"

// queue: one queue of a kernel.
type queue struct {
	room     int
	messages []int // the first one first
}

func newQueues(rooms []int) []queue {
	queues := make([]queue, len(rooms))
	for q, room := range rooms {
		queues[q].room = room
	}
	return queues
}

// send asks first for a thread that waits: what it is given never lies in the
// queue.
func (k *Kernel) send(q int, message int) api.Code {
	next := k.give(api.ForQueue, q)
	switch {
	case next != none:
		k.threads[next].got = message
		return api.Done
	case len(k.queues[q].messages) >= k.queues[q].room:
		return api.Full
	}
	k.queues[q].messages = append(k.queues[q].messages, message)
	return api.Done
}

// receive takes the first message out of queue q, or lets thread t wait for one.
// The others are copied, so that no memory is kept for what was taken out.
func (k *Kernel) receive(t int, q int, ticks int) api.Code {
	messages := k.queues[q].messages
	if len(messages) == 0 {
		return k.waitFor(t, api.ForQueue, q, ticks)
	}
	k.threads[t].got = messages[0]
	k.queues[q].messages = copyOf(messages[1:])
	return api.Done
}
