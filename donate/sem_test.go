package donate_test

import (
	"testing"

	"donate/api"
)

// P14: the document's example of a semaphore.
func TestDownThenUp(t *testing.T) {
	k := begin(t, counting(0, 1, workers(1,
		api.Thread{Base: 1, Code: code{up(0), up(0), up(0)}},
		api.Thread{Base: 2, Code: code{down(0, -1), work}},
	)))
	rests(t, k, 0, 1, 0)
	picks(t, k, 0, 0, 0)
	runs(t, k, 1)
	counts(t, k, 0)
	picks(t, k, 0, 1, 1)
	picks(t, k, 0, 1, 2)
	picks(t, k, 0, 0, 1)
	counts(t, k, 1)
	answers(t, k, 0, 0, 2, api.Full)
	counts(t, k, 1)
	looks(t, k, 0, api.View{State: api.Running, Base: 1, Level: 1, At: 3, Last: api.Full, Released: 1})
}

// P4, P14: semaphores count their First, and nothing below 0 or above their Most.
func TestCountBounds(t *testing.T) {
	for _, c := range []struct{ first, most int }{{0, 1}, {1, 1}, {0, 100}, {1, 100}, {99, 100}, {100, 100}, {3, 7}} {
		own := code{down(1, 0), when(0, 0), up(1), when(0, 2)}
		k := begin(t, counting(5, 9, counting(c.first, c.most, counting(2, 2, workers(1, api.Thread{Code: own})))))
		counts(t, k, 2, c.first, 5)
		for n := c.first; n > 0; n-- {
			picks(t, k, 0, 0, 0)
			counts(t, k, 2, n-1, 5)
			picks(t, k, 0, 0, 1)
		}
		answers(t, k, 0, 0, 0, api.TimedOut)
		counts(t, k, 2, 0, 5)
		picks(t, k, 0, 0, 1)
		for n := 0; n < c.most; n++ {
			picks(t, k, 0, 0, 2)
			counts(t, k, 2, n+1, 5)
			picks(t, k, 0, 0, 3)
		}
		answers(t, k, 0, 0, 2, api.Full)
		counts(t, k, 2, c.most, 5)
	}
}

// P14: a Down of a semaphore that counts above 0 does not wait, however long it
// might.
func TestDownAtOnce(t *testing.T) {
	for _, n := range []int{-1, 0, 1, 1000} {
		k := begin(t, counting(1, 2, workers(1, api.Thread{Base: 4, Code: code{down(0, n)}})))
		picks(t, k, 0, 0, 0)
		counts(t, k, 0)
		looks(t, k, 0, api.View{State: api.Running, Base: 4, Level: 4, At: 1, Released: 1})
		linesFor(t, k, api.ForSem, 0)
	}
}

// P14: an Up behind a wait that ended in time is counted, not given.
func TestUpBehindTimedOut(t *testing.T) {
	k := begin(t, counting(0, 1, workers(2, api.Thread{Base: 4, Code: code{up(0), up(0)}}, api.Thread{Base: 2, Code: code{down(0, 1), down(0, 0)}})))
	rests(t, k, 1, 1, 0)
	ticks(t, k)
	picks(t, k, 0, 0, 0)
	counts(t, k, 1)
	answers(t, k, 0, 0, 1, api.Full)
	looks(t, k, 1, api.View{State: api.Running, Base: 2, Level: 2, At: 1, Last: api.TimedOut, Released: 1})
	picks(t, k, 1, 1, 1)
	counts(t, k, 0)
}

// P14, P9: who is given a semaphore is awake, and has Last Done; its time no
// longer counts, and the count stays.
func TestUpGives(t *testing.T) {
	k := begin(t, counting(0, 1, workers(2,
		api.Thread{Base: 4, Code: code{up(0), up(0)}},
		api.Thread{Base: 3, Code: code{down(0, 2), when(0, 3), end, work}},
	)))
	rests(t, k, 1, 1, 0)
	ticks(t, k)
	picks(t, k, 0, 0, 0)
	runs(t, k, 0, 1)
	counts(t, k, 0)
	linesFor(t, k, api.ForSem, 0)
	for i := 0; i < 3; i++ {
		looks(t, k, 1, api.View{State: api.Running, Base: 3, Level: 3, At: 1, Released: 1})
		ticks(t, k)
	}
	picks(t, k, 0, 0, 1)
	counts(t, k, 1)
	picks(t, k, 1, 1, 1)
	picks(t, k, 1, 1, 3)
}

// P14, P1: Count of what there is not: ErrArg, and 0.
func TestCountOfNothing(t *testing.T) {
	for sems := 0; sems <= 4; sems++ {
		set := workers(1, api.Thread{})
		for i := 0; i < sems; i++ {
			set = counting(3, 4, set)
		}
		k := begin(t, set)
		for _, s := range append([]int{3, 4, 5}, oddNumbers...) {
			want, wantErr := 0, api.ErrArg
			if s >= 0 && s < sems {
				want, wantErr = 3, api.OK
			}
			if got, err := k.Count(s); got != want || err != wantErr {
				t.Errorf("P14: Count(%d) of %d semaphores = %d, %d, want %d, %d", s, sems, got, err, want, wantErr)
			}
		}
	}
}
