package donate_test

import (
	"testing"

	"donate/api"
)

// P5, P6: the greater level goes ahead, and takes the lowest free worker.
func TestUrgentRun(t *testing.T) {
	k := begin(t, workers(2, api.Thread{Base: 1, Code: code{work}}, api.Thread{Base: 2, Code: code{work}}, api.Thread{Base: 3, Code: code{work}}))
	runs(t, k, 2, 1)
	picks(t, k, 0, 2, 0)
	runs(t, k, 2, 1)
	picks(t, k, 0, 2, 1)
	runs(t, k, 0, 1)
}

// P6: who still runs stays on its worker, though lower ones are free or others
// go ahead of it.
func TestStayOnWorker(t *testing.T) {
	k := begin(t, workers(3,
		api.Thread{Base: 9},
		api.Thread{Base: 8},
		api.Thread{Base: 7, Code: code{prio(3, 200), work}},
		api.Thread{Base: 1, Code: code{work}},
	))
	runs(t, k, 0, 1, 2)
	picks(t, k, 0, 0, 0)
	runs(t, k, 3, 1, 2)
	picks(t, k, 1, 1, 0)
	runs(t, k, 3, -1, 2)
	picks(t, k, 2, 2, 0)
	runs(t, k, 3, -1, 2)
	picks(t, k, 0, 3, 0)
	picks(t, k, 0, 3, 1)
	runs(t, k, -1, -1, 2)
	picks(t, k, 0, -1, 0)
	picks(t, k, 2, 2, 1)
	runs(t, k, -1, -1, 2)
}

// P6: a thread that lost its worker takes a free one when it runs again.
func TestNewWorkerBehindRest(t *testing.T) {
	k := begin(t, workers(2,
		api.Thread{Base: 5, Code: code{prio(2, 9)}},
		api.Thread{Base: 4, Code: code{work}},
		api.Thread{Base: 1, Code: code{work}},
	))
	runs(t, k, 0, 1)
	picks(t, k, 0, 0, 0)
	runs(t, k, 0, 2)
	looks(t, k, 1, api.View{State: api.Ready, Base: 4, Level: 4, Released: 1})
	picks(t, k, 0, 0, 1)
	runs(t, k, 1, 2)
}

// P5: if fewer are awake than there are workers, all of them run.
func TestMoreWorkersThanThreads(t *testing.T) {
	k := begin(t, workers(8, api.Thread{Base: 1, Code: code{yield}}, api.Thread{Base: 2}))
	runs(t, k, 1, 0, -1, -1, -1, -1, -1, -1)
	picks(t, k, 1, 0, 0)
	runs(t, k, 1, 0, -1, -1, -1, -1, -1, -1)
	picks(t, k, 0, 1, 0)
	runs(t, k, -1, 0, -1, -1, -1, -1, -1, -1)
	picks(t, k, 1, 0, 1)
	runs(t, k, -1, -1, -1, -1, -1, -1, -1, -1)
}

// P7: the Pick of a worker without a thread changes nothing.
func TestPickFreeWorker(t *testing.T) {
	k := begin(t, workers(2, api.Thread{Base: 1, Code: code{work}}))
	before := seen(k)
	for i := 0; i < 3; i++ {
		picks(t, k, 1, -1, 0)
		if after := seen(k); after != before {
			t.Errorf("P7: behind the Pick of a free worker there is %s, was %s", after, before)
		}
	}
}
