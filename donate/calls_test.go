package donate_test

import (
	"testing"

	"donate/api"
	"donate/donate"
)

var oddNumbers = []int{least, least + 1, -1 << 32, -2, -1, 0, 1, 2, 7, 8, 9, 15, 16, 17, 100, 1 << 31, 1 << 32, greatest - 1, greatest}

// P1: a refused call changes nothing, and its other result is zero.
func TestRefusals(t *testing.T) {
	k := begin(t, workers(2, api.Thread{Base: 5, Code: code{work, yield}}, api.Thread{Base: 4}, api.Thread{Base: 3}))
	picks(t, k, 0, 0, 0)
	ticks(t, k)
	for _, n := range oddNumbers {
		before := seen(k)
		if n < 0 || n >= 2 {
			if got, err := k.Pick(n); err != api.ErrArg || got != (api.Report{}) {
				t.Errorf("P7: Pick(%d) = %+v, %d, want ErrArg", n, got, err)
			}
		}
		if n < 0 || n >= 3 {
			if got, err := k.Look(n); err != api.ErrArg || got != (api.View{}) {
				t.Errorf("P9: Look(%d) = %+v, %d, want ErrArg", n, got, err)
			}
		}
		if after := seen(k); after != before {
			t.Errorf("P1: behind refusals of %d there is %s, was %s", n, after, before)
		}
	}
}

// P4: New answers the error of Check, and then no kernel.
func TestNewRefuses(t *testing.T) {
	fine := api.Thread{}
	for _, c := range []struct {
		set   api.Set
		err   api.Errno
		place int
	}{
		{api.Set{}, api.ErrSize, 0},
		{workers(0, fine), api.ErrSize, 0},
		{workers(1), api.ErrSize, 0},
		{api.Set{Workers: 1, Threads: []api.Thread{fine}, Mutexes: []api.Mutex{{}, {Top: 5}}}, api.ErrMutex, 1},
		{api.Set{Workers: 1, Threads: []api.Thread{fine}, Sems: []api.Sem{{First: 3, Most: 2}}}, api.ErrSem, 0},
		{api.Set{Workers: 1, Threads: []api.Thread{fine}, Queues: []int{1, 1, 0}}, api.ErrQueue, 2},
		{workers(1, api.Thread{Base: 256}), api.ErrThread, 0},
		{workers(1, api.Thread{Period: 5, Deadline: 6}), api.ErrThread, 0},
		{workers(1, fine, api.Thread{Code: code{work, work, {Op: api.OpSleep}}}), api.ErrCode, 102},
		{workers(1, fine, api.Thread{Code: code{work, when(0, 2)}}), api.OK, 0},
		{workers(1, fine, api.Thread{Code: code{work, when(0, 3)}}), api.ErrCode, 101},
	} {
		if err, place := donate.Check(c.set); err != c.err || place != c.place {
			t.Errorf("P3: Check(%+v) = %d, %d, want %d, %d", c.set, err, place, c.err, c.place)
		}
		k, err := donate.New(c.set)
		if err != c.err || (k == nil) != (c.err != api.OK) {
			t.Errorf("P4: New(%+v) = %v, %d, want %d", c.set, k, err, c.err)
		}
	}
}

// anyNumber: mostly a small number, at times an odd one.
func anyNumber(d *dice) int {
	if d.below(60) == 0 {
		return oddNumbers[d.below(len(oddNumbers))]
	}
	return d.below(4)
}

func anyThread(d *dice) api.Thread {
	thread := api.Thread{Base: anyNumber(d), Offset: d.below(2), Period: 5, Deadline: anyNumber(d)}
	for n := d.below(5); n > 0; n-- {
		instr := api.Instr{Op: d.below(13), A: d.below(2), B: d.below(2)}
		switch instr.Op {
		case api.OpLock, api.OpDown, api.OpRecv:
			instr.B = d.below(3) - 1
		}
		thread.Code = append(thread.Code, instr)
	}
	return thread
}

func anySet(d *dice) api.Set {
	starts := []int{0, 1, 2, api.MaxTime - 1, api.MaxTime}
	set := api.Set{Workers: anyNumber(d), Start: starts[d.below(5)], Mutexes: make([]api.Mutex, 1+d.below(3)), Sems: make([]api.Sem, 1+d.below(3)), Queues: make([]int, 1+d.below(3))}
	for i := range set.Mutexes {
		set.Mutexes[i].Kind = d.below(2)
	}
	for i := range set.Sems {
		set.Sems[i] = api.Sem{First: d.below(2), Most: 1 + anyNumber(d)}
	}
	for i := range set.Queues {
		set.Queues[i] = 1 + anyNumber(d)
	}
	for n := d.below(6); n > 0; n-- {
		set.Threads = append(set.Threads, anyThread(d))
	}
	return set
}

// callAll calls everything with one number.
func callAll(k *donate.Kernel, n int) {
	k.Pick(n)
	k.Look(n)
	k.Owner(n)
	k.Waiting(n, n)
	for what := api.ForMutex; what <= api.ForQueue; what++ {
		k.Waiting(what, n)
	}
	k.Count(n)
	k.Messages(n)
	k.Now()
	k.Running()
	k.Misses()
	k.Tick()
}

// P1: no call panics and all end, whatever the numbers and lists.
func TestEveryCallEnds(t *testing.T) {
	d := &dice{state: 1}
	made := 0
	for round := 0; round < 20000; round++ {
		set := anySet(d)
		checked, _ := donate.Check(set)
		donate.Run(set, oddNumbers)
		k, err := donate.New(set)
		if err != checked {
			t.Fatalf("P4: New(%+v) answers %d, Check %d", set, err, checked)
		}
		if k == nil {
			continue
		}
		made++
		for i := 0; i < 40; i++ {
			callAll(k, anyNumber(d))
		}
	}
	if made < 1000 {
		t.Errorf("only %d sets may be: the rounds say too little", made)
	}
}
