package donate

import "donate/api"

// thread: one thread of a kernel.
type thread struct {
	code     []api.Instr
	base     int
	first    int // when job 0 is released
	period   int
	deadline int
	at       int
	last     api.Code
	got      int
	released int
	ended    int
	wait     wait
}

// newThreads makes threads without jobs. Codes are copied, because their owner
// may write over them later.
func newThreads(given []api.Thread, start int) []thread {
	threads := make([]thread, len(given))
	for t, from := range given {
		code := make([]api.Instr, len(from.Code))
		copy(code, from.Code)
		threads[t] = thread{
			code:     code,
			base:     from.Base,
			first:    start + from.Offset,
			period:   from.Period,
			deadline: from.Deadline,
		}
	}
	return threads
}

// awake tells whether thread t could run.
func (k *Kernel) awake(t int) bool {
	return k.hasJob(t) && !k.waits(t)
}

func (k *Kernel) state(t int) int {
	if !k.hasJob(t) {
		return api.Idle
	}
	if k.waits(t) {
		return api.Blocked
	}
	if placeOf(k.workers, t) == none {
		return api.Ready
	}
	return api.Running
}

func (k *Kernel) view(t int) api.View {
	state := k.state(t)
	level := k.level(t)
	seen := k.threads[t]
	return api.View{
		State:    state,
		Base:     seen.base,
		Level:    level,
		At:       seen.at,
		Last:     seen.last,
		Got:      seen.got,
		Released: seen.released,
		Ended:    seen.ended,
		For:      seen.wait.what,
		Of:       seen.wait.of,
		Until:    seen.wait.until,
	}
}
