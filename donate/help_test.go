package donate_test

import (
	"fmt"
	"testing"

	"donate/api"
	"donate/donate"
)

const (
	greatest = 1<<63 - 1
	least    = -1 << 63
)

type code = []api.Instr

var (
	work  = api.Instr{Op: api.OpWork}
	yield = api.Instr{Op: api.OpYield}
	end   = api.Instr{Op: api.OpEnd}
)

func when(last int, place int) api.Instr { return api.Instr{Op: api.OpWhen, A: last, B: place} }

func prio(thread int, base int) api.Instr { return api.Instr{Op: api.OpPrio, A: thread, B: base} }

func sleep(ticks int) api.Instr { return api.Instr{Op: api.OpSleep, A: ticks} }

func workers(n int, threads ...api.Thread) api.Set {
	return api.Set{Workers: n, Threads: threads}
}

// begin: a kernel of a set that may be.
func begin(t *testing.T, set api.Set) *donate.Kernel {
	t.Helper()
	k, err := donate.New(set)
	if err != api.OK || k == nil {
		t.Fatalf("P4: New answers %v, %d", k, err)
	}
	return k
}

// picks: Pick(w) must answer the report of a thread, a place and Done.
func picks(t *testing.T, k *donate.Kernel, w int, thread int, at int) {
	t.Helper()
	want := api.Report{Thread: thread, At: at, Code: api.Done}
	if got, err := k.Pick(w); err != api.OK || got != want {
		t.Errorf("P7: Pick(%d) = %+v, %d, want %+v", w, got, err, want)
	}
}

// rests: Pick(w) must answer that the thread waits from that place on.
func rests(t *testing.T, k *donate.Kernel, w int, thread int, at int) {
	t.Helper()
	want := api.Report{Thread: thread, At: at, Code: api.Waits}
	if got, err := k.Pick(w); err != api.OK || got != want {
		t.Errorf("P10: Pick(%d) = %+v, %d, want %+v", w, got, err, want)
	}
}

// ticks: a Tick must answer these misses.
func ticks(t *testing.T, k *donate.Kernel, want ...api.Miss) {
	t.Helper()
	if got, err := k.Tick(); err != api.OK || !sameMisses(got, want) {
		t.Errorf("P10, P11: Tick to %d = %v, %d, want %v", k.Now(), got, err, want)
	}
}

func misses(t *testing.T, k *donate.Kernel, want ...api.Miss) {
	t.Helper()
	if got := k.Misses(); !sameMisses(got, want) {
		t.Errorf("P11: Misses = %v, want %v", got, want)
	}
}

func sameMisses(a []api.Miss, b []api.Miss) bool { return fmt.Sprint(a) == fmt.Sprint(b) }

func runs(t *testing.T, k *donate.Kernel, want ...int) {
	t.Helper()
	if got := k.Running(); fmt.Sprint(got) != fmt.Sprint(want) {
		t.Errorf("P6: Running = %v, want %v", got, want)
	}
}

func looks(t *testing.T, k *donate.Kernel, thread int, want api.View) {
	t.Helper()
	if got, err := k.Look(thread); err != api.OK || got != want {
		t.Errorf("P9: Look(%d) = %+v, %d, want %+v", thread, got, err, want)
	}
}

// seen: all that can be seen of a kernel's threads, workers, time and misses.
func seen(k *donate.Kernel) string {
	text := fmt.Sprint(k.Now(), k.Running(), k.Misses())
	for thread := 0; ; thread++ {
		view, err := k.Look(thread)
		if err != api.OK {
			return text
		}
		text += fmt.Sprintf(" %+v", view)
	}
}

// dice: numbers that look like chance, the same in every run.
type dice struct {
	state uint64
}

func (d *dice) below(n int) int {
	d.state = d.state*6364136223846793005 + 1442695040888963407
	return int(d.state>>33) % n
}
