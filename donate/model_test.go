package donate_test

import (
	"fmt"
	"sort"
	"testing"

	"donate/api"
)

// model: P4 to P11 told a second time, with tickets and waits that are counted,
// and with jobs that are worked out from the time alone.
type model struct {
	set     api.Set
	now     int
	threads []modelThread
	running []int
	counted int
	misses  []api.Miss
}

type modelThread struct {
	base, at, ended int
	last            api.Code
	ticket          int
	sleeps          bool
	until, began    int
}

func newModel(set api.Set) *model {
	m := &model{set: set, now: set.Start}
	for i, thread := range set.Threads {
		m.threads = append(m.threads, modelThread{base: thread.Base})
		m.draw(i)
	}
	for i := 0; i < set.Workers; i++ {
		m.running = append(m.running, -1)
	}
	m.share()
	return m
}

func (m *model) draw(i int) {
	m.counted++
	m.threads[i].ticket = m.counted
}

// released counts the jobs of thread i whose time has come.
func (m *model) released(i int) int {
	thread := m.set.Threads[i]
	ago := m.now - m.set.Start - thread.Offset
	if ago < 0 {
		return 0
	}
	if thread.Period == 0 {
		return 1
	}
	return 1 + ago/thread.Period
}

func (m *model) awake(i int) bool {
	return m.released(i) > m.threads[i].ended && !m.threads[i].sleeps
}

func (m *model) share() {
	var line []int
	for i := range m.threads {
		if m.awake(i) {
			line = append(line, i)
		}
	}
	sort.Slice(line, func(i, j int) bool {
		a, b := m.threads[line[i]], m.threads[line[j]]
		if a.base != b.base {
			return a.base > b.base
		}
		return a.ticket < b.ticket
	})
	runs := map[int]bool{}
	for i := 0; i < len(line) && i < len(m.running); i++ {
		runs[line[i]] = true
	}
	for w, i := range m.running {
		if i >= 0 && runs[i] {
			delete(runs, i)
		} else {
			m.running[w] = -1
		}
	}
	for _, i := range line {
		for w := 0; runs[i]; w++ {
			if m.running[w] < 0 {
				m.running[w] = i
				delete(runs, i)
			}
		}
	}
}

func (m *model) pick(w int) api.Report {
	i := m.running[w]
	if i < 0 {
		return api.Report{Thread: -1}
	}
	own := &m.threads[i]
	report := api.Report{Thread: i, At: own.at}
	instr := append(append(code{}, m.set.Threads[i].Code...), end)[own.at]
	own.at++
	switch {
	case instr.Op == api.OpEnd:
		own.at = 0
		own.ended++
		m.draw(i)
	case instr.Op == api.OpYield:
		m.draw(i)
	case instr.Op == api.OpPrio:
		m.threads[instr.A].base = instr.B
	case instr.Op == api.OpWhen && instr.A == 0:
		own.at = instr.B
	case instr.Op == api.OpSleep:
		m.counted++
		own.sleeps, own.until, own.began = true, m.now+instr.A, m.counted
		report.Code, own.last = api.Waits, api.Waits
	}
	m.share()
	return report
}

// tick looks at every job that was ever released.
func (m *model) tick() []api.Miss {
	var missed []api.Miss
	for i, thread := range m.set.Threads {
		for job := m.threads[i].ended; job < m.released(i); job++ {
			time := m.set.Start + thread.Offset + job*thread.Period + thread.Deadline
			if thread.Deadline > 0 && time == m.now+1 {
				missed = append(missed, api.Miss{Thread: i, Job: job, Time: time})
			}
		}
	}
	m.misses = append(m.misses, missed...)
	var idle []int
	for i := range m.threads {
		if m.released(i) == m.threads[i].ended {
			idle = append(idle, i)
		}
	}
	m.now++
	m.wake()
	for _, i := range idle {
		if m.awake(i) {
			m.draw(i)
		}
	}
	m.share()
	return missed
}

func (m *model) wake() {
	var due []int
	for i, thread := range m.threads {
		if thread.sleeps && thread.until == m.now {
			due = append(due, i)
		}
	}
	sort.Slice(due, func(i, j int) bool { return m.threads[due[i]].began < m.threads[due[j]].began })
	for _, i := range due {
		m.threads[i].sleeps = false
		m.threads[i].last = api.Done
		m.draw(i)
	}
}

func (m *model) view(i int) api.View {
	own := m.threads[i]
	v := api.View{Base: own.base, Level: own.base, At: own.at, Last: own.last, Released: m.released(i), Ended: own.ended}
	switch {
	case own.sleeps:
		v.State, v.For, v.Until = api.Blocked, api.ForTime, own.until
	case m.awake(i):
		v.State = api.Ready
	}
	for _, on := range m.running {
		if on == i {
			v.State = api.Running
		}
	}
	return v
}

func chanceInstr(d *dice, length int, threads int) api.Instr {
	switch d.below(8) {
	case 0, 1:
		return yield
	case 2:
		return when(d.below(2), d.below(length+1))
	case 3:
		return prio(d.below(threads), d.below(4))
	case 4, 5:
		return sleep(1 + d.below(4))
	case 6:
		return end
	}
	return work
}

func chanceSet(d *dice) api.Set {
	set := api.Set{Workers: 1 + d.below(5), Start: d.below(5), Threads: make([]api.Thread, 1+d.below(9))}
	for i := range set.Threads {
		own := api.Thread{Base: d.below(4), Offset: d.below(4), Period: d.below(7), Code: make(code, d.below(7))}
		if own.Period == 0 {
			own.Deadline = d.below(20)
		} else {
			own.Deadline = d.below(own.Period + 1)
		}
		for at := range own.Code {
			own.Code[at] = chanceInstr(d, len(own.Code), len(set.Threads))
		}
		set.Threads[i] = own
	}
	return set
}

// P4 to P11: many sets, step by step, against the model.
func TestAgainstModel(t *testing.T) {
	d := &dice{state: 9}
	for round := 0; round < 3000; round++ {
		set := chanceSet(d)
		k := begin(t, set)
		m := newModel(set)
		for step := 0; step < 80; step++ {
			if fmt.Sprint(k.Now(), k.Running()) != fmt.Sprint(m.now, m.running) {
				t.Fatalf("P5, P6: %+v: step %d: Running = %v, want %v", set, step, k.Running(), m.running)
			}
			for i := range set.Threads {
				if got, _ := k.Look(i); got != m.view(i) {
					t.Fatalf("P8, P9: %+v: step %d: Look(%d) = %+v, want %+v", set, step, i, got, m.view(i))
				}
			}
			if d.below(4) == 0 {
				ticks(t, k, m.tick()...)
				continue
			}
			w := d.below(set.Workers)
			want := m.pick(w)
			if got, err := k.Pick(w); err != api.OK || got != want {
				t.Fatalf("P7: %+v: step %d: Pick(%d) = %+v, %d, want %+v", set, step, w, got, err, want)
			}
		}
		misses(t, k, m.misses...)
	}
}
