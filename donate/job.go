package donate

import "donate/api"

func (k *Kernel) hasJob(t int) bool {
	return k.threads[t].released > k.threads[t].ended
}

// releaseTime tells when a job of thread t is or was released.
func (k *Kernel) releaseTime(t int, job int) int {
	return k.threads[t].first + job*k.threads[t].period
}

// jobIsDue tells whether the next job of thread t is released now.
func (k *Kernel) jobIsDue(t int) bool {
	next := k.threads[t].released
	if k.threads[t].period == 0 && next > 0 {
		return false
	}
	return k.releaseTime(t, next) == k.now
}

// releaseJobs releases, thread by thread, the jobs whose time is now.
func (k *Kernel) releaseJobs() {
	for t := range k.threads {
		if k.jobIsDue(t) {
			k.release(t)
		}
	}
}

// release gives thread t one job more.
func (k *Kernel) release(t int) {
	wasIdle := !k.hasJob(t)
	k.threads[t].released++
	if wasIdle {
		k.drawTicket(t)
	}
}

// endJob ends the thread's job. If another is released it begins behind the
// others of its level, also behind those whom the mutexes are given to.
func (k *Kernel) endJob(t int) {
	k.threads[t].ended++
	k.threads[t].at = 0
	k.threads[t].last = api.Done
	k.unlockAll(t)
	if k.hasJob(t) {
		k.drawTicket(t)
	}
}

// lookAtDeadlines tells, thread by thread, whose deadline is missed now, and
// keeps it for Misses.
func (k *Kernel) lookAtDeadlines() []api.Miss {
	var missed []api.Miss
	for t := range k.threads {
		if k.missesDeadline(t) {
			missed = append(missed, api.Miss{Thread: t, Job: k.newestJob(t), Time: k.now})
		}
	}
	k.misses = append(k.misses, missed...)
	return missed
}

func (k *Kernel) newestJob(t int) int {
	return k.threads[t].released - 1
}

// missesDeadline tells whether a deadline of thread t is now and its job has
// not ended. As no deadline is longer than a period, those of all jobs but the
// newest have gone by; and if any job has not ended, the newest has not.
func (k *Kernel) missesDeadline(t int) bool {
	deadline := k.threads[t].deadline
	if deadline == 0 || !k.hasJob(t) {
		return false
	}
	newest := k.newestJob(t)
	return k.releaseTime(t, newest)+deadline == k.now
}
