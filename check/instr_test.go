package check

import (
	"testing"

	"donate/api"
)

// span: the least and the greatest number that an operand may be.
type span struct {
	low, high int
}

// spansOf: what an instruction of fit's thread 1 (two instructions) takes.
func spansOf() []struct {
	op   int
	a, b span
} {
	return []struct {
		op   int
		a, b span
	}{
		{api.OpEnd, span{0, 0}, span{0, 0}},
		{api.OpWork, span{0, 0}, span{0, 0}},
		{api.OpYield, span{0, 0}, span{0, 0}},
		{api.OpWhen, span{0, 7}, span{0, 2}},
		{api.OpPrio, span{0, 2}, span{0, 255}},
		{api.OpSleep, span{1, 1000}, span{0, 0}},
		{api.OpLock, span{0, 1}, span{-1, 1000}},
		{api.OpUnlock, span{0, 1}, span{0, 0}},
		{api.OpDown, span{0, 2}, span{-1, 1000}},
		{api.OpUp, span{0, 2}, span{0, 0}},
		{api.OpSend, span{0, 3}, span{0, 255}},
		{api.OpRecv, span{0, 3}, span{-1, 1000}},
	}
}

func numbersAround(s span) []int {
	return []int{least, -1 << 40, s.low - 2, s.low - 1, s.low, s.high, s.high + 1, s.high + 2, 1 << 40, greatest}
}

func in(n int, s span) bool { return n >= s.low && n <= s.high }

func TestOperands(t *testing.T) {
	for _, c := range spansOf() {
		for _, a := range numbersAround(c.a) {
			for _, b := range numbersAround(c.b) {
				set := fit()
				set.Threads[1].Code[1] = api.Instr{Op: c.op, A: a, B: b}
				want := Fault{}
				if !in(a, c.a) || !in(b, c.b) {
					want = Fault{Err: api.ErrCode, Place: 101}
				}
				if got := Set(set); got != want {
					t.Errorf("P3: the instruction %d %d %d: %+v, want %+v", c.op, a, b, got, want)
				}
			}
		}
	}
}

func TestUnknownOperations(t *testing.T) {
	for _, op := range []int{least, -1, 12, 13, greatest} {
		set := fit()
		set.Threads[1].Code[0].Op = op
		wants(t, "an unknown operation", set, api.ErrCode, 100)
	}
}

// Without mutexes, semaphores and queues there is not even number 0 of them.
func TestNothingToName(t *testing.T) {
	for _, op := range []int{api.OpLock, api.OpUnlock, api.OpDown, api.OpUp, api.OpSend, api.OpRecv} {
		set := api.Set{Workers: 1, Threads: []api.Thread{{Code: []api.Instr{{Op: op}}}}}
		wants(t, "an instruction that names nothing", set, api.ErrCode, 0)
	}
}

// When may go to the code's end: the length is that of its own thread's code.
func TestWhenPlace(t *testing.T) {
	set := fit()
	set.Threads[1].Code = make([]api.Instr, 32)
	set.Threads[1].Code[31] = api.Instr{Op: api.OpWhen, B: 32}
	wants(t, "When to the end of 32 instructions", set, api.OK, 0)
	set.Threads[1].Code[31].B = 33
	wants(t, "When beyond the end", set, api.ErrCode, 131)
	set.Threads[2].Code[0] = api.Instr{Op: api.OpWhen, B: 2}
	set.Threads[1].Code[31].B = 0
	wants(t, "When beyond the end of a shorter code", set, api.ErrCode, 200)
}

func TestFirstBadInstruction(t *testing.T) {
	set := api.Set{Workers: 1, Threads: make([]api.Thread, 16)}
	set.Threads[15].Code = make([]api.Instr, 32)
	set.Threads[15].Code[31].A = 1
	wants(t, "the last of all instructions", set, api.ErrCode, 1531)
	set.Threads[15].Code[30].B = 1
	wants(t, "the one ahead of it", set, api.ErrCode, 1530)
	set.Threads[3].Code = []api.Instr{{}, {}, {Op: 99}}
	wants(t, "one of an earlier thread", set, api.ErrCode, 302)
}
