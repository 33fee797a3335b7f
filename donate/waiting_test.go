package donate_test

import (
	"testing"

	"donate/api"
	"donate/donate"
)

// P13, P1: Owner of what there is not: ErrArg, and no thread's number.
func TestOwnerOfNothing(t *testing.T) {
	for mutexes := 0; mutexes <= 8; mutexes++ {
		k := begin(t, inherit(mutexes, workers(1, api.Thread{Code: code{sleep(1)}})))
		for _, m := range oddNumbers {
			want, wantErr := 0, api.ErrArg
			if m >= 0 && m < mutexes {
				want, wantErr = -1, api.OK
			}
			if got, err := k.Owner(m); got != want || err != wantErr {
				t.Errorf("P13: Owner(%d) of %d mutexes = %d, %d, want %d, %d", m, mutexes, got, err, want, wantErr)
			}
		}
	}
}

// waitingOfNothing: Waiting must tell nobody for what there is, and refuse all else.
func waitingOfNothing(t *testing.T, k *donate.Kernel, what int, i int, there int) {
	t.Helper()
	want := api.ErrArg
	if i >= 0 && i < there {
		want = api.OK
	}
	got, err := k.Waiting(what, i)
	if len(got) != 0 || err != want || err != api.OK && got != nil {
		t.Errorf("P13: Waiting(%d, %d) = %v, %d, want %d", what, i, got, err, want)
	}
}

// P13, P1: Waiting for what there is not, or for what is no such thing, be there
// threads that wait for nothing or for a time.
func TestWaitingForNothing(t *testing.T) {
	set := inherit(2, workers(1, api.Thread{Base: 5, Code: code{sleep(1)}}, api.Thread{}, api.Thread{Offset: 1}))
	set.Sems = []api.Sem{{Most: 1}, {Most: 1}, {Most: 1}}
	set.Queues = []int{1, 2, 3, 4}
	k := begin(t, set)
	rests(t, k, 0, 0, 0)
	before := seen(k)
	for _, what := range append([]int{3, 4, 5}, oddNumbers...) {
		there := 0
		switch what {
		case api.ForMutex:
			there = 2
		case api.ForSem:
			there = 3
		case api.ForQueue:
			there = 4
		}
		for _, i := range append([]int{3, 4, 5}, oddNumbers...) {
			waitingOfNothing(t, k, what, i, there)
		}
	}
	if after := seen(k); after != before {
		t.Errorf("P1: behind refusals there is %s, was %s", after, before)
	}
}

// P13: Waiting tells those who wait for that mutex alone: the greatest level
// first, of one level the one that began first. A change of levels changes it.
func TestWaitingInOrder(t *testing.T) {
	own := func(base int, m int) api.Thread {
		return api.Thread{Base: base, Code: code{lock(m, -1)}}
	}
	k := begin(t, inherit(2, workers(8,
		api.Thread{Base: 200, Code: code{lock(0, -1), lock(1, -1), prio(5, 9), prio(2, 4), prio(4, 0)}},
		own(4, 0), own(6, 0), own(4, 1), own(6, 0), own(4, 0), own(5, 1), own(4, 0),
	)))
	runs(t, k, 0, 2, 4, 6, 1, 3, 5, 7)
	picks(t, k, 0, 0, 0)
	picks(t, k, 0, 0, 1)
	for _, w := range []int{7, 5, 6, 2, 4, 1, 3} {
		rests(t, k, w, []int{0, 2, 4, 6, 1, 3, 5, 7}[w], 0)
	}
	lines(t, k, 0, 4, 2, 7, 5, 1)
	lines(t, k, 1, 6, 3)
	picks(t, k, 0, 0, 2)
	lines(t, k, 0, 5, 4, 2, 7, 1)
	picks(t, k, 0, 0, 3)
	lines(t, k, 0, 5, 4, 7, 1, 2)
	picks(t, k, 0, 0, 4)
	lines(t, k, 0, 5, 7, 1, 2, 4)
	picks(t, k, 0, 0, 5)
	owners(t, k, 5, 6)
	lines(t, k, 0, 7, 1, 2, 4)
	lines(t, k, 1, 3)
}

// P13: as many as may wait.
func TestAllWait(t *testing.T) {
	set := inherit(1, workers(8))
	for i := 0; i < 16; i++ {
		set.Threads = append(set.Threads, api.Thread{Base: i / 2, Code: code{lock(0, -1)}})
	}
	k := begin(t, set)
	picks(t, k, 0, 14, 0)
	for i := 0; i < 15; i++ {
		k.Pick(1)
		for w := 2; w < 8; w++ {
			k.Pick(w)
		}
	}
	lines(t, k, 0, 15, 12, 13, 10, 11, 8, 9, 6, 7, 4, 5, 2, 3, 0, 1)
	owners(t, k, 14)
	runs(t, k, 14, -1, -1, -1, -1, -1, -1, -1)
}

// P2: what Waiting tells is the caller's, with its spare room.
func TestWaitingIsFresh(t *testing.T) {
	own := api.Thread{Base: 2, Code: code{lock(0, -1)}}
	k := begin(t, inherit(1, workers(4, own, own, own, own)))
	picks(t, k, 0, 0, 0)
	for i := 1; i < 4; i++ {
		rests(t, k, i, i, 0)
	}
	first, _ := k.Waiting(api.ForMutex, 0)
	second, _ := k.Waiting(api.ForMutex, 0)
	for _, list := range [][]int{first, second} {
		spoilNumbers(list)
		lines(t, k, 0, 1, 2, 3)
	}
	second[0] = 5
	if first[0] != 1000 {
		t.Errorf("P2: two answers share memory")
	}
	picks(t, k, 0, 0, 1)
	lines(t, k, 0, 2, 3)
	runs(t, k, 1, -1, -1, -1)
}
