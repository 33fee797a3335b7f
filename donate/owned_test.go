package donate_test

import (
	"fmt"
	"testing"

	"donate/api"
	"donate/donate"
)

// roomySet: a set whose lists all have spare room, and the whole of these lists.
func roomySet() (api.Set, func() string) {
	codes := code{lock(0, 2), yield, send(0, 4), prio(1, 7), up(0), sleep(2), down(0, 1), recv(0, 2), send(0, 5)}
	for i := 0; i < 4; i++ {
		codes = append(codes, api.Instr{Op: 77, A: 77, B: 77})
	}
	threads := make([]api.Thread, 4)
	threads[0] = api.Thread{Base: 5, Period: 4, Deadline: 1, Code: codes[:9]}
	threads[1] = api.Thread{Base: 5, Offset: 1, Period: 3, Deadline: 3, Code: codes[:3]}
	threads[2] = api.Thread{Base: 88}
	mutexes := []api.Mutex{{Kind: api.Ceiling, Top: 6}, {Kind: 55}}
	sems := []api.Sem{{First: 1, Most: 2}, {First: 66}}
	queues := []int{3, 99}
	set := api.Set{Workers: 1, Start: 4, Threads: threads[:2], Mutexes: mutexes[:1], Sems: sems[:1], Queues: queues[:1]}
	whole := func() string { return fmt.Sprint(codes, threads, mutexes, sems, queues) }
	return set, whole
}

// move: Picks and, now and then, a Tick.
func move(k *donate.Kernel, i int) (api.Report, []api.Miss) {
	report, _ := k.Pick(0)
	if i%3 != 1 {
		return report, nil
	}
	missed, _ := k.Tick()
	return report, missed
}

// P2: nothing handed in is written into, nor its spare room.
func TestSetIsNotWritten(t *testing.T) {
	set, whole := roomySet()
	before := whole()
	donate.Check(set)
	k := begin(t, set)
	for i := 0; i < 40; i++ {
		move(k, i)
		seen(k)
	}
	if after := whole(); after != before {
		t.Errorf("P2: the set is now %s, was %s", after, before)
	}
}

// P2: a set that is written over behind New changes nothing.
func TestSetIsNotKept(t *testing.T) {
	set, _ := roomySet()
	other, _ := roomySet()
	k := begin(t, set)
	same := begin(t, other)
	for i := range set.Threads {
		for at := range set.Threads[i].Code {
			set.Threads[i].Code[at] = api.Instr{Op: api.OpEnd, A: 9}
		}
		set.Threads[i] = api.Thread{Base: 200, Offset: 3, Period: 1, Deadline: 1}
	}
	set.Mutexes[0] = api.Mutex{Top: 5}
	set.Sems[0] = api.Sem{}
	set.Queues[0] = 0
	for i := 0; i < 40; i++ {
		got, gotMissed := move(k, i)
		want, wantMissed := move(same, i)
		if got != want || !sameMisses(gotMissed, wantMissed) || seen(k) != seen(same) {
			t.Errorf("P2: move %d: %+v, %v, want %+v, %v", i, got, gotMissed, want, wantMissed)
		}
	}
	if len(k.Misses()) == 0 {
		t.Errorf("P2: no miss: the moves say too little")
	}
}

// P2: what comes out is the caller's, with its spare room.
func TestAnswersAreFresh(t *testing.T) {
	k := begin(t, workers(3, api.Thread{Base: 5}, api.Thread{Base: 4}))
	first := k.Running()
	second := k.Running()
	for _, list := range [][]int{first, second} {
		spoilNumbers(list)
		runs(t, k, 0, 1, -1)
	}
	second[0] = 5
	if first[0] != 1000 {
		t.Errorf("P2: two answers share memory")
	}
	picks(t, k, 0, 0, 0)
	runs(t, k, -1, 1, -1)
}

// spoilNumbers writes over a list of numbers and its spare room.
func spoilNumbers(list []int) {
	whole := list[:cap(list)]
	for i := range whole {
		whole[i] = 1000 + i
	}
}

// spoil writes over a list of misses and its spare room.
func spoil(list []api.Miss) {
	whole := list[:cap(list)]
	for i := range whole {
		whole[i] = api.Miss{Thread: 99, Job: 99, Time: 99}
	}
}

// P2, P11: so are the misses, those of a Tick and those of all time.
func TestMissesAreFresh(t *testing.T) {
	late := api.Thread{Period: 1, Deadline: 1}
	k := begin(t, workers(1, late, late, late))
	var want []api.Miss
	for now := 1; now < 20; now++ {
		ofTick := []api.Miss{{Thread: 0, Job: now - 1, Time: now}, {Thread: 1, Job: now - 1, Time: now}, {Thread: 2, Job: now - 1, Time: now}}
		want = append(want, ofTick...)
		missed, _ := k.Tick()
		all := k.Misses()
		again := k.Misses()
		spoil(again)
		if !sameMisses(missed, ofTick) || !sameMisses(all, want) {
			t.Fatalf("P2, P11: Tick = %v, Misses = %v, want %v, %v", missed, all, ofTick, want)
		}
		spoil(missed)
		if !sameMisses(all, want) {
			t.Fatalf("P2: Tick and Misses share memory")
		}
		spoil(all)
		misses(t, k, want...)
	}
}

// P2: only Pick and Tick change a kernel.
func TestLookingChangesNothing(t *testing.T) {
	set, _ := roomySet()
	k := begin(t, set)
	looked := begin(t, set)
	for i := 0; i < 40; i++ {
		for n := -1; n < 3; n++ {
			looked.Look(n)
			looked.Running()
			looked.Now()
			looked.Misses()
			looked.Owner(n)
			for what := api.ForMutex; what <= api.ForQueue; what++ {
				looked.Waiting(what, n)
			}
			looked.Count(n)
			looked.Messages(n)
		}
		move(k, i)
		move(looked, i)
		if seen(k) != seen(looked) {
			t.Errorf("P2: move %d: %s, want %s", i, seen(looked), seen(k))
		}
	}
}

// P2: kernels of one set know nothing of each other.
func TestKernelsAreApart(t *testing.T) {
	set, _ := roomySet()
	k := begin(t, set)
	other := begin(t, set)
	before := seen(other)
	for i := 0; i < 40; i++ {
		move(k, i)
		if seen(other) != before {
			t.Errorf("P2: move %d of another kernel: %s, was %s", i, seen(other), before)
		}
	}
}
