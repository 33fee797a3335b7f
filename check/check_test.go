package check

import (
	"testing"

	"donate/api"
)

const (
	greatest = 1<<63 - 1
	least    = -1 << 63
)

// fit: a set that may be, with some of everything.
func fit() api.Set {
	return api.Set{
		Workers: 2,
		Start:   10,
		Threads: []api.Thread{
			{Base: 1},
			{Base: 2, Offset: 3, Period: 9, Deadline: 7, Code: []api.Instr{{Op: api.OpWork}, {Op: api.OpYield}}},
			{Base: 3, Code: []api.Instr{{Op: api.OpWork}}},
		},
		Mutexes: []api.Mutex{{Kind: api.Inherit}, {Kind: api.Ceiling, Top: 4}},
		Sems:    []api.Sem{{First: 0, Most: 1}, {First: 2, Most: 2}, {First: 0, Most: 3}},
		Queues:  []int{1, 2, 3, 4},
	}
}

func wants(t *testing.T, what string, set api.Set, err api.Errno, place int) {
	t.Helper()
	want := Fault{Err: err, Place: place}
	if got := Set(set); got != want {
		t.Errorf("P3: %s: %+v, want %+v", what, got, want)
	}
}

func TestFit(t *testing.T) {
	wants(t, "a set with some of everything", fit(), api.OK, 0)
	wants(t, "the least set", api.Set{Workers: 1, Threads: make([]api.Thread, 1)}, api.OK, 0)
}

func TestSizes(t *testing.T) {
	for _, c := range []struct {
		n   int
		err api.Errno
	}{{least, api.ErrSize}, {-1, api.ErrSize}, {0, api.ErrSize}, {1, api.OK}, {8, api.OK}, {9, api.ErrSize}, {greatest, api.ErrSize}} {
		set := fit()
		set.Workers = c.n
		wants(t, "Workers", set, c.err, 0)
	}
	for _, c := range []struct {
		n   int
		err api.Errno
	}{{least, api.ErrSize}, {-1, api.ErrSize}, {0, api.OK}, {1000000000, api.OK}, {1000000001, api.ErrSize}, {greatest, api.ErrSize}} {
		set := fit()
		set.Start = c.n
		wants(t, "Start", set, c.err, 0)
	}
	for _, c := range []struct {
		n   int
		err api.Errno
	}{{0, api.ErrSize}, {1, api.OK}, {16, api.OK}, {17, api.ErrSize}, {1000, api.ErrSize}} {
		set := fit()
		set.Threads = make([]api.Thread, c.n)
		wants(t, "threads", set, c.err, 0)
	}
}

func TestSizesOfThings(t *testing.T) {
	for n := 0; n < 20; n++ {
		set := fit()
		set.Mutexes = make([]api.Mutex, n)
		wants(t, "mutexes", set, sizeError(n > 8), 0)
		set = fit()
		set.Sems = make([]api.Sem, n)
		for i := range set.Sems {
			set.Sems[i].Most = 1
		}
		wants(t, "semaphores", set, sizeError(n > 4), 0)
		set = fit()
		set.Queues = make([]int, n)
		for i := range set.Queues {
			set.Queues[i] = 1
		}
		wants(t, "queues", set, sizeError(n > 4), 0)
	}
}

func sizeError(tooMany bool) api.Errno {
	if tooMany {
		return api.ErrSize
	}
	return api.OK
}

func TestMutex(t *testing.T) {
	for _, c := range []struct {
		mutex api.Mutex
		ok    bool
	}{
		{api.Mutex{Kind: api.Inherit, Top: 0}, true},
		{api.Mutex{Kind: api.Inherit, Top: 1}, false},
		{api.Mutex{Kind: api.Inherit, Top: -1}, false},
		{api.Mutex{Kind: api.Ceiling, Top: 0}, true},
		{api.Mutex{Kind: api.Ceiling, Top: 255}, true},
		{api.Mutex{Kind: api.Ceiling, Top: 256}, false},
		{api.Mutex{Kind: api.Ceiling, Top: -1}, false},
		{api.Mutex{Kind: api.Ceiling, Top: least}, false},
		{api.Mutex{Kind: api.Ceiling, Top: greatest}, false},
		{api.Mutex{Kind: 2}, false},
		{api.Mutex{Kind: -1}, false},
		{api.Mutex{Kind: least}, false},
	} {
		set := fit()
		set.Mutexes[1] = c.mutex
		if c.ok {
			wants(t, "a mutex", set, api.OK, 0)
			continue
		}
		wants(t, "a mutex", set, api.ErrMutex, 1)
		set.Mutexes[0] = c.mutex
		wants(t, "the first of two mutexes", set, api.ErrMutex, 0)
	}
}

func TestSem(t *testing.T) {
	for _, c := range []struct {
		sem api.Sem
		ok  bool
	}{
		{api.Sem{First: 0, Most: 1}, true},
		{api.Sem{First: 1, Most: 1}, true},
		{api.Sem{First: 2, Most: 1}, false},
		{api.Sem{First: 3, Most: 2}, false},
		{api.Sem{First: -1, Most: 1}, false},
		{api.Sem{First: 0, Most: 0}, false},
		{api.Sem{First: -1, Most: -1}, false},
		{api.Sem{First: 100, Most: 100}, true},
		{api.Sem{First: 0, Most: 101}, false},
		{api.Sem{First: least, Most: 5}, false},
		{api.Sem{First: 0, Most: greatest}, false},
	} {
		set := fit()
		set.Sems[2] = c.sem
		if c.ok {
			wants(t, "a semaphore", set, api.OK, 0)
			continue
		}
		wants(t, "a semaphore", set, api.ErrSem, 2)
		set.Sems[1] = c.sem
		wants(t, "the first of two semaphores", set, api.ErrSem, 1)
	}
}

func TestQueue(t *testing.T) {
	for _, c := range []struct {
		room int
		ok   bool
	}{{1, true}, {8, true}, {0, false}, {9, false}, {-1, false}, {least, false}, {greatest, false}} {
		set := fit()
		set.Queues[3] = c.room
		if c.ok {
			wants(t, "a queue", set, api.OK, 0)
			continue
		}
		wants(t, "a queue", set, api.ErrQueue, 3)
		set.Queues[2] = c.room
		wants(t, "the first of two queues", set, api.ErrQueue, 2)
	}
}

func TestThread(t *testing.T) {
	for i, c := range []struct {
		thread api.Thread
		ok     bool
	}{
		{api.Thread{}, true},
		{api.Thread{Base: 255}, true},
		{api.Thread{Base: 256}, false},
		{api.Thread{Base: -1}, false},
		{api.Thread{Base: least}, false},
		{api.Thread{Offset: 1000}, true},
		{api.Thread{Offset: 1001}, false},
		{api.Thread{Offset: -1}, false},
		{api.Thread{Offset: greatest}, false},
		{api.Thread{Period: 1}, true},
		{api.Thread{Period: 1000}, true},
		{api.Thread{Period: 1001}, false},
		{api.Thread{Period: -1}, false},
		{api.Thread{Period: -1, Deadline: -1}, false},
		{api.Thread{Period: greatest, Deadline: 1}, false},
		{api.Thread{Period: 5, Deadline: 0}, true},
		{api.Thread{Period: 5, Deadline: 5}, true},
		{api.Thread{Period: 5, Deadline: 6}, false},
		{api.Thread{Period: 5, Deadline: -1}, false},
		{api.Thread{Deadline: 1000}, true},
		{api.Thread{Deadline: 1001}, false},
		{api.Thread{Deadline: -1}, false},
		{api.Thread{Deadline: least}, false},
		{api.Thread{Code: make([]api.Instr, 32)}, true},
		{api.Thread{Code: make([]api.Instr, 33)}, false},
	} {
		set := fit()
		set.Threads[2] = c.thread
		if c.ok {
			wants(t, "a thread", set, api.OK, 0)
			continue
		}
		if got := Set(set); got != (Fault{Err: api.ErrThread, Place: 2}) {
			t.Errorf("P3: thread %d of the table: %+v", i, got)
		}
		set.Threads[1] = c.thread
		wants(t, "the first of two threads", set, api.ErrThread, 1)
	}
}

// The errors in the order in which P3 names them: a set with all faults answers
// the first, and with one fault less the next.
func TestFirstNamedFirst(t *testing.T) {
	set := fit()
	set.Threads[0].Code = []api.Instr{{}, {Op: 12}}
	wants(t, "a bad instruction", set, api.ErrCode, 1)
	set.Threads[2].Base = 256
	wants(t, "and a bad thread behind it", set, api.ErrThread, 2)
	set.Queues[3] = 0
	wants(t, "and a bad queue", set, api.ErrQueue, 3)
	set.Sems[2].Most = 0
	wants(t, "and a bad semaphore", set, api.ErrSem, 2)
	set.Mutexes[1].Kind = 7
	wants(t, "and a bad mutex", set, api.ErrMutex, 1)
	set.Start = -1
	wants(t, "and a bad time", set, api.ErrSize, 0)
}
