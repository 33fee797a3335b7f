package donate_test

import (
	"testing"

	"donate/api"
)

// P7: at the code's length an End stands; the second example of the document.
func TestWorkToTheEnd(t *testing.T) {
	k := begin(t, workers(1, api.Thread{Base: 5, Code: code{work, work}}, api.Thread{Base: 5, Code: code{work}}))
	runs(t, k, 0)
	picks(t, k, 0, 0, 0)
	picks(t, k, 0, 0, 1)
	looks(t, k, 0, api.View{State: api.Running, Base: 5, Level: 5, At: 2, Released: 1})
	picks(t, k, 0, 0, 2)
	runs(t, k, 1)
	looks(t, k, 0, api.View{State: api.Idle, Base: 5, Level: 5, Released: 1, Ended: 1})
	picks(t, k, 0, 1, 0)
	picks(t, k, 0, 1, 1)
	runs(t, k, -1)
	picks(t, k, 0, -1, 0)
}

// P7: an End amid the code ends the job, and At becomes 0.
func TestEndAmidCode(t *testing.T) {
	k := begin(t, workers(1, api.Thread{Base: 5, Code: code{work, end, work}}))
	picks(t, k, 0, 0, 0)
	picks(t, k, 0, 0, 1)
	runs(t, k, -1)
	looks(t, k, 0, api.View{State: api.Idle, Base: 5, Level: 5, Released: 1, Ended: 1})
}

// P7: Work draws no ticket, Yield does.
func TestYieldDrawsTicket(t *testing.T) {
	own := code{yield, work}
	k := begin(t, workers(1, api.Thread{Base: 5, Code: own}, api.Thread{Base: 5, Code: own}, api.Thread{Base: 4, Code: own}))
	runs(t, k, 0)
	picks(t, k, 0, 0, 0)
	runs(t, k, 1)
	looks(t, k, 0, api.View{State: api.Ready, Base: 5, Level: 5, At: 1, Released: 1})
	picks(t, k, 0, 1, 0)
	runs(t, k, 0)
	picks(t, k, 0, 0, 1)
	runs(t, k, 0)
	picks(t, k, 0, 0, 2)
	runs(t, k, 1)
}

// P7: a Yield makes way for nobody of a lower level.
func TestYieldWithinLevel(t *testing.T) {
	k := begin(t, workers(1, api.Thread{Base: 5, Code: code{yield, yield}}, api.Thread{Base: 4}))
	picks(t, k, 0, 0, 0)
	picks(t, k, 0, 0, 1)
	runs(t, k, 0)
}

// P7: three threads that yield take turns, however often.
func TestYieldInTurns(t *testing.T) {
	loop := code{yield, when(0, 0)}
	k := begin(t, workers(1, api.Thread{Code: loop}, api.Thread{Code: loop}, api.Thread{Code: loop}))
	picks(t, k, 0, 0, 0)
	picks(t, k, 0, 1, 0)
	picks(t, k, 0, 2, 0)
	for i := 0; i < 1000; i++ {
		for thread := 0; thread < 3; thread++ {
			picks(t, k, 0, thread, 1)
			picks(t, k, 0, thread, 0)
		}
	}
}

// P7: When goes to B if Last is A, else on; it leaves Last as it is.
func TestWhen(t *testing.T) {
	k := begin(t, workers(1, api.Thread{Base: 1, Code: code{when(1, 0), when(7, 0), work, when(0, 5), work, when(2, 0), when(0, 7)}}))
	for _, at := range []int{0, 1, 2, 3, 5, 6} {
		picks(t, k, 0, 0, at)
	}
	looks(t, k, 0, api.View{State: api.Running, Base: 1, Level: 1, At: 7, Released: 1})
	picks(t, k, 0, 0, 7)
	runs(t, k, -1)
}

// P7: When looks at a Last that is not Done, and leaves it as it is; every other
// instruction, and the End, sets it.
func TestWhenOfOtherCodes(t *testing.T) {
	own := api.Thread{Period: 1, Code: code{unlock(0), when(0, 5), when(5, 5), when(6, 4), work, when(6, 0), work, unlock(0), end}}
	k := begin(t, inherit(1, workers(1, own)))
	ticks(t, k)
	last := func(at int, want api.Code) {
		t.Helper()
		looks(t, k, 0, api.View{State: api.Running, At: at, Last: want, Released: 2})
	}
	answers(t, k, 0, 0, 0, api.NotOwner)
	for at := 1; at < 4; at++ {
		last(at, api.NotOwner)
		picks(t, k, 0, 0, at)
	}
	last(4, api.NotOwner)
	picks(t, k, 0, 0, 4)
	last(5, api.Done)
	picks(t, k, 0, 0, 5)
	picks(t, k, 0, 0, 6)
	answers(t, k, 0, 0, 7, api.NotOwner)
	last(8, api.NotOwner)
	picks(t, k, 0, 0, 8)
	looks(t, k, 0, api.View{State: api.Running, Released: 2, Ended: 1})
}

// P7: a When to its own place stays there for ever.
func TestWhenToItself(t *testing.T) {
	k := begin(t, workers(1, api.Thread{Code: code{work, when(0, 1)}}))
	picks(t, k, 0, 0, 0)
	for i := 0; i < 100; i++ {
		picks(t, k, 0, 0, 1)
	}
	runs(t, k, 0)
}

// P7, P8: Prio sets a Base, and the Level follows at once.
func TestPrioOfAnother(t *testing.T) {
	k := begin(t, workers(1, api.Thread{Base: 5, Code: code{prio(1, 9), work}}, api.Thread{Base: 1, Code: code{work}}))
	picks(t, k, 0, 0, 0)
	runs(t, k, 1)
	looks(t, k, 0, api.View{State: api.Ready, Base: 5, Level: 5, At: 1, Released: 1})
	looks(t, k, 1, api.View{State: api.Running, Base: 9, Level: 9, Released: 1})
}

// P7: Prio may set the thread's own Base, which then holds for good.
func TestPrioOfItself(t *testing.T) {
	k := begin(t, workers(1, api.Thread{Base: 5, Code: code{prio(0, 0)}}, api.Thread{Base: 3}, api.Thread{Base: 0}))
	picks(t, k, 0, 0, 0)
	runs(t, k, 1)
	picks(t, k, 0, 1, 0)
	picks(t, k, 0, 0, 1)
	looks(t, k, 0, api.View{State: api.Idle, Released: 1, Ended: 1})
}

// P7: Prio may set the Base of a thread that is Idle, which stays Idle.
func TestPrioOfIdle(t *testing.T) {
	k := begin(t, workers(2, api.Thread{Base: 5, Code: code{prio(1, 255)}}, api.Thread{Base: 1, Offset: 5}))
	picks(t, k, 0, 0, 0)
	runs(t, k, 0, -1)
	looks(t, k, 1, api.View{State: api.Idle, Base: 255, Level: 255})
}

// P8: a thread whose level rose and fell again has the ticket that it had.
func TestTicketOutlastsLevel(t *testing.T) {
	k := begin(t, workers(1,
		api.Thread{Base: 5, Code: code{prio(0, 9), prio(0, 5), work}},
		api.Thread{Base: 5, Code: code{prio(2, 5)}},
		api.Thread{Base: 4},
	))
	picks(t, k, 0, 0, 0)
	picks(t, k, 0, 0, 1)
	runs(t, k, 0)
	picks(t, k, 0, 0, 2)
	picks(t, k, 0, 0, 3)
	picks(t, k, 0, 1, 0)
	runs(t, k, 1)
}

// P8: a thread lowered below its own first level keeps its ticket there too.
func TestTicketOutlastsFall(t *testing.T) {
	k := begin(t, workers(1, api.Thread{Base: 9, Code: code{prio(0, 5), work}}, api.Thread{Base: 5, Code: code{work}}))
	picks(t, k, 0, 0, 0)
	runs(t, k, 0)
	k = begin(t, workers(1, api.Thread{Base: 5, Code: code{work}}, api.Thread{Base: 9, Code: code{prio(1, 5), work}}))
	picks(t, k, 0, 1, 0)
	runs(t, k, 0)
}
