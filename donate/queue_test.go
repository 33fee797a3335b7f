package donate_test

import (
	"testing"

	"donate/api"
)

// P15: the document's example of a queue. Got outlasts TimedOut and the job.
func TestSendThenRecv(t *testing.T) {
	k := begin(t, roomFor(1, workers(1, api.Thread{Period: 1, Code: code{send(0, 7), send(0, 8), recv(0, 0), recv(0, 0)}})))
	holds(t, k, 0)
	gots(t, k, 0)
	picks(t, k, 0, 0, 0)
	holds(t, k, 0, 7)
	answers(t, k, 0, 0, 1, api.Full)
	holds(t, k, 0, 7)
	looks(t, k, 0, api.View{State: api.Running, At: 2, Last: api.Full, Released: 1})
	picks(t, k, 0, 0, 2)
	holds(t, k, 0)
	answers(t, k, 0, 0, 3, api.TimedOut)
	looks(t, k, 0, api.View{State: api.Running, At: 4, Last: api.TimedOut, Got: 7, Released: 1})
	picks(t, k, 0, 0, 4)
	looks(t, k, 0, api.View{State: api.Idle, Got: 7, Released: 1, Ended: 1})
	ticks(t, k)
	looks(t, k, 0, api.View{State: api.Running, Got: 7, Released: 2, Ended: 1})
}

// P15: as many messages as there is room for, and no more; the first one first.
func TestRoom(t *testing.T) {
	for room := 1; room <= 8; room++ {
		var own code
		var want []int
		for i := 0; i <= room; i++ {
			own = append(own, send(1, 255-i))
			want = append(want, 255-i)
		}
		for i := 0; i <= room; i++ {
			own = append(own, recv(1, 0))
		}
		k := begin(t, roomFor(3, roomFor(room, roomFor(2, workers(1, api.Thread{Code: own})))))
		for i := 0; i < room; i++ {
			picks(t, k, 0, 0, i)
			holds(t, k, 1, want[:i+1]...)
		}
		answers(t, k, 0, 0, room, api.Full)
		for i := 0; i < room; i++ {
			holds(t, k, 1, want[i:room]...)
			picks(t, k, 0, 0, room+1+i)
			gots(t, k, want[i])
		}
		answers(t, k, 0, 0, 2*room+1, api.TimedOut)
		gots(t, k, want[room-1])
		for q := 0; q < 3; q++ {
			holds(t, k, q)
		}
	}
}

// P15: a queue that is never empty goes round and round, in order.
func TestSendInTurns(t *testing.T) {
	own := code{send(0, 7), send(0, 6), recv(0, -1), send(0, 7), recv(0, -1), when(0, 1)}
	k := begin(t, roomFor(2, workers(1, api.Thread{Code: own})))
	picks(t, k, 0, 0, 0)
	for i := 0; i < 100; i++ {
		holds(t, k, 0, 7)
		picks(t, k, 0, 0, 1)
		holds(t, k, 0, 7, 6)
		picks(t, k, 0, 0, 2)
		holds(t, k, 0, 6)
		gots(t, k, 7)
		picks(t, k, 0, 0, 3)
		holds(t, k, 0, 6, 7)
		picks(t, k, 0, 0, 4)
		gots(t, k, 6)
		picks(t, k, 0, 0, 5)
	}
}

// P15: a Recv of a queue with a message does not wait, however long it might;
// the message may be 0.
func TestRecvAtOnce(t *testing.T) {
	for _, n := range []int{-1, 0, 1, 1000} {
		k := begin(t, roomFor(2, workers(1, api.Thread{Base: 4, Code: code{send(0, 9), recv(0, n), send(0, 0), recv(0, n)}})))
		picks(t, k, 0, 0, 0)
		picks(t, k, 0, 0, 1)
		looks(t, k, 0, api.View{State: api.Running, Base: 4, Level: 4, At: 2, Got: 9, Released: 1})
		picks(t, k, 0, 0, 2)
		holds(t, k, 0, 0)
		picks(t, k, 0, 0, 3)
		looks(t, k, 0, api.View{State: api.Running, Base: 4, Level: 4, At: 4, Released: 1})
		holds(t, k, 0)
		linesFor(t, k, api.ForQueue, 0)
	}
}

// P15: a Send behind a wait that ended in time lays its message into the queue.
func TestSendBehindTimedOut(t *testing.T) {
	k := begin(t, roomFor(1, workers(2, api.Thread{Base: 4, Code: code{send(0, 3), send(0, 4)}}, api.Thread{Base: 2, Code: code{recv(0, 1), recv(0, 0)}})))
	rests(t, k, 1, 1, 0)
	ticks(t, k)
	picks(t, k, 0, 0, 0)
	holds(t, k, 0, 3)
	gots(t, k, 0, 0)
	answers(t, k, 0, 0, 1, api.Full)
	looks(t, k, 1, api.View{State: api.Running, Base: 2, Level: 2, At: 1, Last: api.TimedOut, Released: 1})
	picks(t, k, 1, 1, 1)
	gots(t, k, 0, 3)
	holds(t, k, 0)
}

// P15, P9: who is given a message is awake, has it as its Got, and has Last Done;
// its time no longer counts, and the queue stays empty. The sender gets nothing.
func TestSendGives(t *testing.T) {
	k := begin(t, roomFor(1, workers(2,
		api.Thread{Base: 4, Code: code{send(0, 255), send(0, 6), send(0, 7)}},
		api.Thread{Base: 3, Code: code{recv(0, 2), when(0, 3), end, work}},
	)))
	rests(t, k, 1, 1, 0)
	ticks(t, k)
	picks(t, k, 0, 0, 0)
	runs(t, k, 0, 1)
	holds(t, k, 0)
	linesFor(t, k, api.ForQueue, 0)
	looks(t, k, 0, api.View{State: api.Running, Base: 4, Level: 4, At: 1, Released: 1})
	for i := 0; i < 3; i++ {
		looks(t, k, 1, api.View{State: api.Running, Base: 3, Level: 3, At: 1, Got: 255, Released: 1})
		ticks(t, k)
	}
	picks(t, k, 0, 0, 1)
	holds(t, k, 0, 6)
	gots(t, k, 0, 255)
	answers(t, k, 0, 0, 2, api.Full)
	picks(t, k, 1, 1, 1)
	picks(t, k, 1, 1, 3)
}

// P15: each message goes to one thread alone, and to none a second time.
func TestSendToMany(t *testing.T) {
	wants := api.Thread{Base: 2, Code: code{recv(0, -1), sleep(9)}}
	k := begin(t, roomFor(1, workers(4, api.Thread{Base: 9, Code: code{send(0, 10), send(0, 0), send(0, 12), send(0, 13)}}, wants, wants, wants)))
	for _, w := range []int{2, 3, 1} {
		rests(t, k, w, w, 0)
	}
	picks(t, k, 0, 0, 0)
	gots(t, k, 0, 0, 10, 0)
	picks(t, k, 0, 0, 1)
	gots(t, k, 0, 0, 10, 0)
	linesFor(t, k, api.ForQueue, 0, 1)
	picks(t, k, 0, 0, 2)
	gots(t, k, 0, 12, 10, 0)
	holds(t, k, 0)
	picks(t, k, 0, 0, 3)
	gots(t, k, 0, 12, 10, 0)
	holds(t, k, 0, 13)
}

// P15, P1: Messages of what there is not: ErrArg, and nil.
func TestMessagesOfNothing(t *testing.T) {
	for queues := 0; queues <= 4; queues++ {
		set := workers(1, api.Thread{})
		for i := 0; i < queues; i++ {
			set = roomFor(3, set)
		}
		k := begin(t, set)
		for _, q := range append([]int{3, 4, 5}, oddNumbers...) {
			want := api.ErrArg
			if q >= 0 && q < queues {
				want = api.OK
			}
			got, err := k.Messages(q)
			if len(got) != 0 || err != want || err != api.OK && got != nil {
				t.Errorf("P15: Messages(%d) of %d queues = %v, %d, want %d", q, queues, got, err, want)
			}
		}
	}
}

// P2: what Messages tells is the caller's, with its spare room.
func TestMessagesAreFresh(t *testing.T) {
	k := begin(t, roomFor(8, workers(1, api.Thread{Code: code{send(0, 1), send(0, 2), send(0, 3), recv(0, 0), send(0, 4), send(0, 5)}})))
	want := [][]int{{1}, {1, 2}, {1, 2, 3}, {2, 3}, {2, 3, 4}, {2, 3, 4, 5}}
	for at, list := range want {
		picks(t, k, 0, 0, at)
		first, _ := k.Messages(0)
		second, _ := k.Messages(0)
		for _, told := range [][]int{first, second} {
			spoilNumbers(told)
			holds(t, k, 0, list...)
		}
		second[0] = 5
		if first[0] != 1000 {
			t.Errorf("P2: two answers share memory")
		}
	}
}
