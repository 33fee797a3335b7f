package donate_test

import (
	"fmt"
	"sort"
	"testing"

	"donate/api"
	"donate/donate"
)

// model: P4 to P16 told a second time, with tickets and waits that are counted,
// with jobs that are worked out from the time alone, and with levels that are
// worked out by recursion.
type model struct {
	set     api.Set
	now     int
	threads []modelThread
	owned   map[int]int   // by mutex its owner
	counts  map[int]int   // by semaphore
	queues  map[int][]int // by queue its messages
	running []int
	counted int
	misses  []api.Miss
}

type modelThread struct {
	base, at, ended int
	got             int
	last            api.Code
	ticket          int
	what, of        int // what it waits for
	until, began    int
}

func newModel(set api.Set) *model {
	m := &model{set: set, now: set.Start, owned: map[int]int{}, counts: map[int]int{}, queues: map[int][]int{}}
	for i, sem := range set.Sems {
		m.counts[i] = sem.First
	}
	for i, thread := range set.Threads {
		m.threads = append(m.threads, modelThread{base: thread.Base})
		m.draw(i)
	}
	for i := 0; i < set.Workers; i++ {
		m.running = append(m.running, -1)
	}
	m.share()
	return m
}

func (m *model) draw(i int) {
	m.counted++
	m.threads[i].ticket = m.counted
}

// released counts the jobs of thread i whose time has come.
func (m *model) released(i int) int {
	thread := m.set.Threads[i]
	ago := m.now - m.set.Start - thread.Offset
	if ago < 0 {
		return 0
	}
	if thread.Period == 0 {
		return 1
	}
	return 1 + ago/thread.Period
}

func (m *model) awake(i int) bool {
	return m.released(i) > m.threads[i].ended && m.threads[i].what == api.ForNothing
}

func (m *model) level(i int) int {
	level := m.threads[i].base
	for mutex, owner := range m.owned {
		if owner == i {
			level = max(level, m.lent(mutex))
		}
	}
	return level
}

func (m *model) lent(mutex int) int {
	if m.set.Mutexes[mutex].Kind == api.Ceiling {
		return m.set.Mutexes[mutex].Top
	}
	lent := 0
	for i, thread := range m.threads {
		if thread.what == api.ForMutex && thread.of == mutex {
			lent = max(lent, m.level(i))
		}
	}
	return lent
}

// sorted: the greatest level first, of one level the least key.
func (m *model) sorted(line []int, key func(modelThread) int) []int {
	sort.Slice(line, func(i, j int) bool {
		a, b := m.level(line[i]), m.level(line[j])
		if a != b {
			return a > b
		}
		return key(m.threads[line[i]]) < key(m.threads[line[j]])
	})
	return line
}

func (m *model) waiting(what int, of int) []int {
	var line []int
	for i, thread := range m.threads {
		if thread.what == what && thread.of == of {
			line = append(line, i)
		}
	}
	return m.sorted(line, func(thread modelThread) int { return thread.began })
}

func (m *model) wait(i int, what int, of int, ticks int) api.Code {
	m.counted++
	own := &m.threads[i]
	own.what, own.of, own.until, own.began = what, of, m.now+ticks, m.counted
	if ticks < 0 {
		own.until = -1
	}
	return api.Waits
}

func (m *model) wake(i int, last api.Code) {
	own := &m.threads[i]
	own.what, own.of, own.until, own.last = api.ForNothing, 0, 0, last
	m.draw(i)
}

// needs tells whether thread i would have to wait for thread j to go on.
func (m *model) needs(i int, j int) bool {
	if i == j {
		return true
	}
	return m.threads[i].what == api.ForMutex && m.needs(m.owned[m.threads[i].of], j)
}

func (m *model) lock(i int, mutex int, ticks int) api.Code {
	owner, owned := m.owned[mutex]
	given := m.set.Mutexes[mutex]
	if owned && owner == i {
		return api.Relock
	}
	if given.Kind == api.Ceiling && given.Top < m.threads[i].base {
		return api.TooHigh
	}
	if !owned {
		m.owned[mutex] = i
		return api.Done
	}
	if m.needs(owner, i) {
		return api.Cycle
	}
	if ticks == 0 {
		return api.TimedOut
	}
	return m.wait(i, api.ForMutex, mutex, ticks)
}

func (m *model) unlock(i int, mutex int) api.Code {
	if owner, owned := m.owned[mutex]; !owned || owner != i {
		return api.NotOwner
	}
	line := m.waiting(api.ForMutex, mutex)
	delete(m.owned, mutex)
	if len(line) > 0 {
		m.owned[mutex] = line[0]
		m.wake(line[0], api.Done)
	}
	return api.Done
}

// given: one that waits for a thing gets it.
func (m *model) given(what int, of int, message int) bool {
	line := m.waiting(what, of)
	if len(line) == 0 {
		return false
	}
	if what == api.ForQueue {
		m.threads[line[0]].got = message
	}
	m.wake(line[0], api.Done)
	return true
}

func (m *model) down(i int, sem int, ticks int) api.Code {
	switch {
	case m.counts[sem] > 0:
		m.counts[sem]--
		return api.Done
	case ticks == 0:
		return api.TimedOut
	}
	return m.wait(i, api.ForSem, sem, ticks)
}

func (m *model) up(sem int) api.Code {
	switch {
	case m.given(api.ForSem, sem, 0):
	case m.counts[sem] == m.set.Sems[sem].Most:
		return api.Full
	default:
		m.counts[sem]++
	}
	return api.Done
}

func (m *model) send(queue int, message int) api.Code {
	switch {
	case m.given(api.ForQueue, queue, message):
	case len(m.queues[queue]) == m.set.Queues[queue]:
		return api.Full
	default:
		m.queues[queue] = append(m.queues[queue], message)
	}
	return api.Done
}

func (m *model) recv(i int, queue int, ticks int) api.Code {
	switch {
	case len(m.queues[queue]) > 0:
		m.threads[i].got = m.queues[queue][0]
		m.queues[queue] = m.queues[queue][1:]
		return api.Done
	case ticks == 0:
		return api.TimedOut
	}
	return m.wait(i, api.ForQueue, queue, ticks)
}

func (m *model) share() {
	var line []int
	for i := range m.threads {
		if m.awake(i) {
			line = append(line, i)
		}
	}
	line = m.sorted(line, func(thread modelThread) int { return thread.ticket })
	runs := map[int]bool{}
	for i := 0; i < len(line) && i < len(m.running); i++ {
		runs[line[i]] = true
	}
	for w, i := range m.running {
		if i >= 0 && runs[i] {
			delete(runs, i)
		} else {
			m.running[w] = -1
		}
	}
	for _, i := range line {
		for w := 0; runs[i]; w++ {
			if m.running[w] < 0 {
				m.running[w] = i
				delete(runs, i)
			}
		}
	}
}

func (m *model) pick(w int) api.Report {
	i := m.running[w]
	if i < 0 {
		return api.Report{Thread: -1}
	}
	own := &m.threads[i]
	report := api.Report{Thread: i, At: own.at}
	instr := append(append(code{}, m.set.Threads[i].Code...), end)[own.at]
	own.at++
	last := own.last
	switch instr.Op {
	case api.OpEnd:
		own.at = 0
		own.ended++
		for mutex := range m.set.Mutexes {
			m.unlock(i, mutex)
		}
		m.draw(i)
	case api.OpYield:
		m.draw(i)
	case api.OpPrio:
		m.threads[instr.A].base = instr.B
	case api.OpWhen:
		if int(last) == instr.A {
			own.at = instr.B
		}
	case api.OpSleep:
		report.Code = m.wait(i, api.ForTime, 0, instr.A)
	case api.OpLock:
		report.Code = m.lock(i, instr.A, instr.B)
	case api.OpUnlock:
		report.Code = m.unlock(i, instr.A)
	case api.OpDown:
		report.Code = m.down(i, instr.A, instr.B)
	case api.OpUp:
		report.Code = m.up(instr.A)
	case api.OpSend:
		report.Code = m.send(instr.A, instr.B)
	case api.OpRecv:
		report.Code = m.recv(i, instr.A, instr.B)
	}
	if instr.Op != api.OpWhen {
		own.last = report.Code
	}
	m.share()
	return report
}

// tick looks at every job that was ever released.
func (m *model) tick() []api.Miss {
	var missed []api.Miss
	for i, thread := range m.set.Threads {
		for job := m.threads[i].ended; job < m.released(i); job++ {
			time := m.set.Start + thread.Offset + job*thread.Period + thread.Deadline
			if thread.Deadline > 0 && time == m.now+1 {
				missed = append(missed, api.Miss{Thread: i, Job: job, Time: time})
			}
		}
	}
	m.misses = append(m.misses, missed...)
	var idle []int
	for i := range m.threads {
		if m.released(i) == m.threads[i].ended {
			idle = append(idle, i)
		}
	}
	m.now++
	m.endWaits()
	for _, i := range idle {
		if m.awake(i) {
			m.draw(i)
		}
	}
	m.share()
	return missed
}

func (m *model) endWaits() {
	var due []int
	for i, thread := range m.threads {
		if thread.what != api.ForNothing && thread.until == m.now {
			due = append(due, i)
		}
	}
	sort.Slice(due, func(i, j int) bool { return m.threads[due[i]].began < m.threads[due[j]].began })
	for _, i := range due {
		if m.threads[i].what == api.ForTime {
			m.wake(i, api.Done)
		} else {
			m.wake(i, api.TimedOut)
		}
	}
}

func (m *model) view(i int) api.View {
	own := m.threads[i]
	v := api.View{Base: own.base, Level: m.level(i), At: own.at, Last: own.last, Got: own.got, Released: m.released(i), Ended: own.ended}
	switch {
	case own.what != api.ForNothing:
		v.State, v.For, v.Of, v.Until = api.Blocked, own.what, own.of, own.until
	case m.awake(i):
		v.State = api.Ready
	}
	for _, on := range m.running {
		if on == i {
			v.State = api.Running
		}
	}
	return v
}

// chanceThing: an instruction for a mutex, a semaphore or a queue.
func chanceThing(d *dice, set api.Set) api.Instr {
	ticks := max(-1, d.below(9)-4)
	mutexes, sems, queues := len(set.Mutexes), len(set.Sems), len(set.Queues)
	thing := d.below(mutexes + sems + queues)
	switch {
	case thing < mutexes && d.below(6) == 0:
		return unlock(thing)
	case thing < mutexes:
		return lock(thing, ticks)
	case thing < mutexes+sems && d.below(2) == 0:
		return up(thing - mutexes)
	case thing < mutexes+sems:
		return down(thing-mutexes, ticks)
	case d.below(2) == 0:
		return send(thing-mutexes-sems, d.below(256))
	}
	return recv(thing-mutexes-sems, ticks)
}

// chanceInstr: mostly what needs a mutex, a semaphore or a queue.
func chanceInstr(d *dice, length int, set api.Set) api.Instr {
	if len(set.Mutexes)+len(set.Sems)+len(set.Queues) > 0 && d.below(5) > 1 {
		return chanceThing(d, set)
	}
	switch d.below(8) {
	case 0, 1:
		return yield
	case 2:
		return when(d.below(8), d.below(length+1))
	case 3:
		return prio(d.below(len(set.Threads)), d.below(6))
	case 4, 5:
		return sleep(1 + d.below(4))
	case 6:
		return end
	}
	return work
}

func chanceSet(d *dice) api.Set {
	set := api.Set{Workers: 1 + d.below(5), Start: d.below(5), Threads: make([]api.Thread, 1+d.below(12)), Mutexes: make([]api.Mutex, d.below(9)), Sems: make([]api.Sem, max(0, d.below(9)-4)), Queues: make([]int, max(0, d.below(9)-4))}
	for i := range set.Mutexes {
		if d.below(3) == 0 {
			set.Mutexes[i] = api.Mutex{Kind: api.Ceiling, Top: d.below(6)}
		}
	}
	for i := range set.Sems {
		most := 1 + d.below(3)
		set.Sems[i] = api.Sem{First: d.below(most + 1), Most: most}
	}
	for i := range set.Queues {
		set.Queues[i] = 1 + d.below(3)
	}
	for i := range set.Threads {
		own := api.Thread{Base: d.below(5), Offset: d.below(4), Period: d.below(7), Code: make(code, d.below(12))}
		if own.Period == 0 {
			own.Deadline = d.below(20)
		} else {
			own.Deadline = d.below(own.Period + 1)
		}
		for at := range own.Code {
			own.Code[at] = chanceInstr(d, len(own.Code), set)
		}
		set.Threads[i] = own
	}
	return set
}

// same: what can be seen of the kernel and of the model.
func same(t *testing.T, k *donate.Kernel, m *model, step int) {
	t.Helper()
	if fmt.Sprint(k.Now(), k.Running()) != fmt.Sprint(m.now, m.running) {
		t.Fatalf("P5, P6: %+v: step %d: Running = %v, want %v", m.set, step, k.Running(), m.running)
	}
	for i := range m.threads {
		if got, _ := k.Look(i); got != m.view(i) {
			t.Fatalf("P8, P9: %+v: step %d: Look(%d) = %+v, want %+v", m.set, step, i, got, m.view(i))
		}
	}
	for i := range m.set.Mutexes {
		want, owned := m.owned[i]
		if !owned {
			want = -1
		}
		if owner, _ := k.Owner(i); owner != want {
			t.Fatalf("P13: %+v: step %d: Owner(%d) = %d, want %d", m.set, step, i, owner, want)
		}
	}
	sameThings(t, k, m, step)
}

// sameThings: the lines of those who wait, the counts and the messages.
func sameThings(t *testing.T, k *donate.Kernel, m *model, step int) {
	t.Helper()
	for kind, many := range []int{len(m.set.Mutexes), len(m.set.Sems), len(m.set.Queues)} {
		what := api.ForMutex + kind
		for i := 0; i < many; i++ {
			if line, err := k.Waiting(what, i); err != api.OK || fmt.Sprint(line) != fmt.Sprint(m.waiting(what, i)) {
				t.Fatalf("P13: %+v: step %d: Waiting(%d, %d) = %v, want %v", m.set, step, what, i, line, m.waiting(what, i))
			}
		}
	}
	for i := range m.set.Sems {
		if count, _ := k.Count(i); count != m.counts[i] {
			t.Fatalf("P14: %+v: step %d: Count(%d) = %d, want %d", m.set, step, i, count, m.counts[i])
		}
	}
	for i := range m.set.Queues {
		if list, _ := k.Messages(i); fmt.Sprint(list) != fmt.Sprint(m.queues[i]) {
			t.Fatalf("P15: %+v: step %d: Messages(%d) = %v, want %v", m.set, step, i, list, m.queues[i])
		}
	}
}

// P4 to P16: many sets, step by step, against the model; then the same steps as
// a script. All codes must come often, lest the rounds say too little.
func TestAgainstModel(t *testing.T) {
	d := &dice{state: 9}
	var codes [8]int
	for round := 0; round < 3000; round++ {
		set := chanceSet(d)
		k := begin(t, set)
		m := newModel(set)
		var script []int
		var want []api.Line
		for step := 0; step < 80; step++ {
			same(t, k, m, step)
			entry := d.below(set.Workers)
			if d.below(4) == 0 {
				entry = -1
			}
			line := api.Line{Pick: idle}
			if entry == -1 {
				line.Misses = m.tick()
				ticks(t, k, line.Misses...)
			} else {
				line.Pick = m.pick(entry)
				codes[line.Pick.Code]++
				answers(t, k, entry, line.Pick.Thread, line.Pick.At, line.Pick.Code)
			}
			line.Now, line.Running = m.now, append([]int{}, m.running...)
			script = append(script, entry)
			want = append(want, line)
		}
		misses(t, k, m.misses...)
		tells(t, set, script, want...)
		if t.Failed() {
			t.Fatalf("P4 to P16: round %d: %+v", round, set)
		}
	}
	for code, came := range codes {
		if came < 200 {
			t.Errorf("the code %d came %d times", code, came)
		}
	}
}
