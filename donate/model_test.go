package donate_test

import (
	"fmt"
	"sort"
	"testing"

	"donate/api"
)

// model: P4 to P9 told a second time, with tickets that are counted.
type model struct {
	set     api.Set
	bases   []int
	ats     []int
	tickets []int
	jobs    []bool // still at job 0
	begun   []bool // job 0 was released
	running []int
	drawn   int
}

func newModel(set api.Set) *model {
	m := &model{set: set}
	for _, thread := range set.Threads {
		m.bases = append(m.bases, thread.Base)
		m.ats = append(m.ats, 0)
		m.jobs = append(m.jobs, thread.Offset == 0)
		m.begun = append(m.begun, thread.Offset == 0)
		m.drawn++
		m.tickets = append(m.tickets, m.drawn)
	}
	for i := 0; i < set.Workers; i++ {
		m.running = append(m.running, -1)
	}
	m.share()
	return m
}

func (m *model) share() {
	var line []int
	for i, awake := range m.jobs {
		if awake {
			line = append(line, i)
		}
	}
	sort.Slice(line, func(i, j int) bool {
		a, b := line[i], line[j]
		if m.bases[a] != m.bases[b] {
			return m.bases[a] > m.bases[b]
		}
		return m.tickets[a] < m.tickets[b]
	})
	runs := map[int]bool{}
	for i := 0; i < len(line) && i < len(m.running); i++ {
		runs[line[i]] = true
	}
	for w, i := range m.running {
		if i >= 0 && runs[i] {
			delete(runs, i)
		} else {
			m.running[w] = -1
		}
	}
	for _, i := range line {
		for w := 0; runs[i]; w++ {
			if m.running[w] < 0 {
				m.running[w] = i
				delete(runs, i)
			}
		}
	}
}

func (m *model) pick(w int) api.Report {
	i := m.running[w]
	if i < 0 {
		return api.Report{Thread: -1}
	}
	at := m.ats[i]
	instr := append(append(code{}, m.set.Threads[i].Code...), end)[at]
	m.ats[i]++
	switch {
	case instr.Op == api.OpEnd:
		m.ats[i], m.jobs[i] = 0, false
	case instr.Op == api.OpYield:
		m.drawn++
		m.tickets[i] = m.drawn
	case instr.Op == api.OpPrio:
		m.bases[instr.A] = instr.B
	case instr.Op == api.OpWhen && instr.A == 0:
		m.ats[i] = instr.B
	}
	m.share()
	return api.Report{Thread: i, At: at}
}

func (m *model) view(i int) api.View {
	v := api.View{State: api.Idle, Base: m.bases[i], Level: m.bases[i], At: m.ats[i]}
	if m.begun[i] {
		v.Released = 1
		v.Ended = 1
	}
	if m.jobs[i] {
		v.State = api.Ready
		v.Ended = 0
	}
	for _, on := range m.running {
		if on == i {
			v.State = api.Running
		}
	}
	return v
}

func chanceSet(d *dice) api.Set {
	set := api.Set{Workers: 1 + d.below(5), Threads: make([]api.Thread, 1+d.below(9))}
	for i := range set.Threads {
		own := api.Thread{Base: d.below(4), Code: make(code, d.below(7))}
		if d.below(6) == 0 {
			own.Offset = 1
		}
		for at := range own.Code {
			switch d.below(6) {
			case 0:
				own.Code[at] = work
			case 1, 2:
				own.Code[at] = yield
			case 3:
				own.Code[at] = when(d.below(2), d.below(len(own.Code)+1))
			case 4:
				own.Code[at] = prio(d.below(len(set.Threads)), d.below(4))
			}
		}
		set.Threads[i] = own
	}
	return set
}

// P4 to P9: many sets, step by step, against the model.
func TestAgainstModel(t *testing.T) {
	d := &dice{state: 9}
	for round := 0; round < 3000; round++ {
		set := chanceSet(d)
		k := begin(t, set)
		m := newModel(set)
		for step := 0; step < 60; step++ {
			if fmt.Sprint(k.Running()) != fmt.Sprint(m.running) {
				t.Fatalf("P5, P6: %+v: step %d: Running = %v, want %v", set, step, k.Running(), m.running)
			}
			for i := range set.Threads {
				if got, _ := k.Look(i); got != m.view(i) {
					t.Fatalf("P8, P9: %+v: step %d: Look(%d) = %+v, want %+v", set, step, i, got, m.view(i))
				}
			}
			w := d.below(set.Workers)
			want := m.pick(w)
			if got, err := k.Pick(w); err != api.OK || got != want {
				t.Fatalf("P7: %+v: step %d: Pick(%d) = %+v, %d, want %+v", set, step, w, got, err, want)
			}
		}
	}
}
