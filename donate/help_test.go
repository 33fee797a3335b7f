package donate_test

import (
	"fmt"
	"testing"

	"donate/api"
	"donate/donate"
)

const (
	greatest = 1<<63 - 1
	least    = -1 << 63
)

type code = []api.Instr

var (
	work  = api.Instr{Op: api.OpWork}
	yield = api.Instr{Op: api.OpYield}
	end   = api.Instr{Op: api.OpEnd}
)

func when(last int, place int) api.Instr { return api.Instr{Op: api.OpWhen, A: last, B: place} }

func prio(thread int, base int) api.Instr { return api.Instr{Op: api.OpPrio, A: thread, B: base} }

func sleep(ticks int) api.Instr { return api.Instr{Op: api.OpSleep, A: ticks} }

func lock(m int, ticks int) api.Instr { return api.Instr{Op: api.OpLock, A: m, B: ticks} }

func unlock(m int) api.Instr { return api.Instr{Op: api.OpUnlock, A: m} }

func down(s int, ticks int) api.Instr { return api.Instr{Op: api.OpDown, A: s, B: ticks} }

func up(s int) api.Instr { return api.Instr{Op: api.OpUp, A: s} }

func send(q int, message int) api.Instr { return api.Instr{Op: api.OpSend, A: q, B: message} }

func recv(q int, ticks int) api.Instr { return api.Instr{Op: api.OpRecv, A: q, B: ticks} }

func workers(n int, threads ...api.Thread) api.Set {
	return api.Set{Workers: n, Threads: threads}
}

// inherit: a set with n Inherit mutexes.
func inherit(n int, set api.Set) api.Set {
	set.Mutexes = make([]api.Mutex, n)
	return set
}

// ceiling: a set with one more mutex, a Ceiling one.
func ceiling(top int, set api.Set) api.Set {
	set.Mutexes = append(set.Mutexes, api.Mutex{Kind: api.Ceiling, Top: top})
	return set
}

// counting: a set with one more semaphore.
func counting(first int, most int, set api.Set) api.Set {
	set.Sems = append(set.Sems, api.Sem{First: first, Most: most})
	return set
}

// roomFor: a set with one more queue.
func roomFor(messages int, set api.Set) api.Set {
	set.Queues = append(set.Queues, messages)
	return set
}

// begin: a kernel of a set that may be.
func begin(t *testing.T, set api.Set) *donate.Kernel {
	t.Helper()
	k, err := donate.New(set)
	if err != api.OK || k == nil {
		t.Fatalf("P4: New answers %v, %d", k, err)
	}
	return k
}

// answers: Pick(w) must answer the report of a thread, a place and a code.
func answers(t *testing.T, k *donate.Kernel, w int, thread int, at int, with api.Code) {
	t.Helper()
	want := api.Report{Thread: thread, At: at, Code: with}
	if got, err := k.Pick(w); err != api.OK || got != want {
		t.Errorf("P7: Pick(%d) = %+v, %d, want %+v", w, got, err, want)
	}
}

// picks: Pick(w) must answer Done.
func picks(t *testing.T, k *donate.Kernel, w int, thread int, at int) {
	t.Helper()
	answers(t, k, w, thread, at, api.Done)
}

// rests: Pick(w) must answer that the thread waits from that place on.
func rests(t *testing.T, k *donate.Kernel, w int, thread int, at int) {
	t.Helper()
	answers(t, k, w, thread, at, api.Waits)
}

// ticks: a Tick must answer these misses.
func ticks(t *testing.T, k *donate.Kernel, want ...api.Miss) {
	t.Helper()
	if got, err := k.Tick(); err != api.OK || !sameMisses(got, want) {
		t.Errorf("P10, P11: Tick to %d = %v, %d, want %v", k.Now(), got, err, want)
	}
}

func misses(t *testing.T, k *donate.Kernel, want ...api.Miss) {
	t.Helper()
	if got := k.Misses(); !sameMisses(got, want) {
		t.Errorf("P11: Misses = %v, want %v", got, want)
	}
}

func sameMisses(a []api.Miss, b []api.Miss) bool { return fmt.Sprint(a) == fmt.Sprint(b) }

func runs(t *testing.T, k *donate.Kernel, want ...int) {
	t.Helper()
	if got := k.Running(); fmt.Sprint(got) != fmt.Sprint(want) {
		t.Errorf("P6: Running = %v, want %v", got, want)
	}
}

func looks(t *testing.T, k *donate.Kernel, thread int, want api.View) {
	t.Helper()
	if got, err := k.Look(thread); err != api.OK || got != want {
		t.Errorf("P9: Look(%d) = %+v, %d, want %+v", thread, got, err, want)
	}
}

// levels: the levels of the threads from 0 on.
func levels(t *testing.T, k *donate.Kernel, want ...int) {
	t.Helper()
	var got []int
	for thread := range want {
		view, _ := k.Look(thread)
		got = append(got, view.Level)
	}
	if fmt.Sprint(got) != fmt.Sprint(want) {
		t.Errorf("P8: the levels are %v, want %v", got, want)
	}
}

// owners: the owners of the mutexes from 0 on.
func owners(t *testing.T, k *donate.Kernel, want ...int) {
	t.Helper()
	for m, thread := range want {
		if got, err := k.Owner(m); err != api.OK || got != thread {
			t.Errorf("P13: Owner(%d) = %d, %d, want %d", m, got, err, thread)
		}
	}
}

// linesFor: those who wait for a thing, in the order in which they are given it.
func linesFor(t *testing.T, k *donate.Kernel, what int, i int, want ...int) {
	t.Helper()
	if got, err := k.Waiting(what, i); err != api.OK || fmt.Sprint(got) != fmt.Sprint(want) {
		t.Errorf("P13: Waiting(%d, %d) = %v, %d, want %v", what, i, got, err, want)
	}
}

// lines: those who wait for a mutex.
func lines(t *testing.T, k *donate.Kernel, m int, want ...int) {
	t.Helper()
	linesFor(t, k, api.ForMutex, m, want...)
}

// counts: what the semaphores from 0 on count.
func counts(t *testing.T, k *donate.Kernel, want ...int) {
	t.Helper()
	for s, count := range want {
		if got, err := k.Count(s); err != api.OK || got != count {
			t.Errorf("P14: Count(%d) = %d, %d, want %d", s, got, err, count)
		}
	}
}

// holds: the messages in a queue.
func holds(t *testing.T, k *donate.Kernel, q int, want ...int) {
	t.Helper()
	if got, err := k.Messages(q); err != api.OK || fmt.Sprint(got) != fmt.Sprint(want) {
		t.Errorf("P15: Messages(%d) = %v, %d, want %v", q, got, err, want)
	}
}

// gots: the last messages that the threads from 0 on received.
func gots(t *testing.T, k *donate.Kernel, want ...int) {
	t.Helper()
	for thread, message := range want {
		if view, err := k.Look(thread); err != api.OK || view.Got != message {
			t.Errorf("P15: the Got of thread %d is %d, %d, want %d", thread, view.Got, err, message)
		}
	}
}

// seen: all that can be seen of a kernel.
func seen(k *donate.Kernel) string {
	text := fmt.Sprint(k.Now(), k.Running(), k.Misses())
	for thread := 0; thread < api.MaxThreads; thread++ {
		view, err := k.Look(thread)
		text += fmt.Sprintf(" %+v %d", view, err)
	}
	for i := 0; i < api.MaxMutexes; i++ {
		owner, err := k.Owner(i)
		count, countErr := k.Count(i)
		messages, messagesErr := k.Messages(i)
		text += fmt.Sprint(" ", owner, err, count, countErr, messages, messagesErr)
		for what := api.ForMutex; what <= api.ForQueue; what++ {
			line, err := k.Waiting(what, i)
			text += fmt.Sprint(" ", line, err)
		}
	}
	return text
}

// dice: numbers that look like chance, the same in every run.
type dice struct {
	state uint64
}

func (d *dice) below(n int) int {
	d.state = d.state*6364136223846793005 + 1442695040888963407
	return int(d.state>>33) % n
}
