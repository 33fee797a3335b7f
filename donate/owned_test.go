package donate_test

import (
	"fmt"
	"testing"

	"donate/api"
	"donate/donate"
)

// roomySet: a set whose lists all have spare room, and the whole of these lists.
func roomySet() (api.Set, func() string) {
	codes := make(code, 6)
	codes[0], codes[1], codes[2] = yield, prio(1, 7), work
	for i := 3; i < 6; i++ {
		codes[i] = api.Instr{Op: 77, A: 77, B: 77}
	}
	threads := make([]api.Thread, 4)
	threads[0] = api.Thread{Base: 5, Code: codes[:3]}
	threads[1] = api.Thread{Base: 5, Code: codes[:2]}
	threads[2] = api.Thread{Base: 88}
	mutexes := []api.Mutex{{}, {Kind: 55}}
	sems := []api.Sem{{First: 1, Most: 2}, {First: 66}}
	queues := []int{3, 99}
	set := api.Set{Workers: 1, Start: 4, Threads: threads[:2], Mutexes: mutexes[:1], Sems: sems[:1], Queues: queues[:1]}
	whole := func() string { return fmt.Sprint(codes, threads, mutexes, sems, queues) }
	return set, whole
}

// P2: nothing handed in is written into, nor its spare room.
func TestSetIsNotWritten(t *testing.T) {
	set, whole := roomySet()
	before := whole()
	donate.Check(set)
	k := begin(t, set)
	for i := 0; i < 20; i++ {
		k.Pick(0)
		seen(k)
	}
	if after := whole(); after != before {
		t.Errorf("P2: the set is now %s, was %s", after, before)
	}
}

// P2: a set that is written over behind New changes nothing.
func TestSetIsNotKept(t *testing.T) {
	set, _ := roomySet()
	other, _ := roomySet()
	k := begin(t, set)
	same := begin(t, other)
	for i := range set.Threads {
		for at := range set.Threads[i].Code {
			set.Threads[i].Code[at] = api.Instr{Op: api.OpEnd, A: 9}
		}
		set.Threads[i] = api.Thread{Base: 200, Offset: 3}
	}
	for i := 0; i < 12; i++ {
		got, _ := k.Pick(0)
		want, _ := same.Pick(0)
		if got != want || seen(k) != seen(same) {
			t.Errorf("P2: pick %d: %+v, want %+v", i, got, want)
		}
	}
}

// P2: what comes out is the caller's, with its spare room.
func TestAnswersAreFresh(t *testing.T) {
	k := begin(t, workers(3, api.Thread{Base: 5}, api.Thread{Base: 4}))
	first := k.Running()
	second := k.Running()
	for _, list := range [][]int{first, second} {
		whole := list[:cap(list)]
		for i := range whole {
			whole[i] = 1000 + i
		}
		runs(t, k, 0, 1, -1)
	}
	second[0] = 5
	if first[0] != 1000 {
		t.Errorf("P2: two answers share memory")
	}
	picks(t, k, 0, 0, 0)
	runs(t, k, -1, 1, -1)
}

// P2: only Pick and Tick change a kernel.
func TestLookingChangesNothing(t *testing.T) {
	set, _ := roomySet()
	k := begin(t, set)
	looked := begin(t, set)
	for i := 0; i < 12; i++ {
		for n := -1; n < 3; n++ {
			looked.Look(n)
			looked.Running()
			looked.Now()
			looked.Misses()
			looked.Owner(n)
			looked.Waiting(api.ForMutex, n)
			looked.Count(n)
			looked.Messages(n)
		}
		k.Pick(0)
		looked.Pick(0)
		if seen(k) != seen(looked) {
			t.Errorf("P2: pick %d: %s, want %s", i, seen(looked), seen(k))
		}
	}
}

// P2: kernels of one set know nothing of each other.
func TestKernelsAreApart(t *testing.T) {
	set, _ := roomySet()
	k := begin(t, set)
	other := begin(t, set)
	before := seen(other)
	for i := 0; i < 12; i++ {
		k.Pick(0)
		if seen(other) != before {
			t.Errorf("P2: pick %d of another kernel: %s, was %s", i, seen(other), before)
		}
	}
}
