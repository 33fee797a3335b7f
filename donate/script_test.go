package donate_test

import (
	"fmt"
	"testing"

	"donate/api"
	"donate/donate"
)

// tells: Run must answer these lines. Of lists only the entries count.
func tells(t *testing.T, set api.Set, script []int, want ...api.Line) {
	t.Helper()
	got, err := donate.Run(set, script)
	if err != api.OK || fmt.Sprintf("%+v", got) != fmt.Sprintf("%+v", want) {
		t.Errorf("P16: Run with %v = %+v, %d, want %+v", script, got, err, want)
	}
}

// idle: the report of a worker without a thread, and of a Tick.
var idle = api.Report{Thread: -1}

// P16: the document's example.
func TestRunOfExample(t *testing.T) {
	set := workers(1, api.Thread{Base: 5, Code: code{work, work}}, api.Thread{Base: 5, Code: code{work}})
	tells(t, set, []int{0, -1, 5},
		api.Line{Running: []int{0}},
		api.Line{Pick: idle, Now: 1, Running: []int{0}},
		api.Line{Err: api.ErrArg, Now: 1, Running: []int{0}},
	)
}

// P16: the misses of a Tick stand in its line alone; the time may come to its end.
func TestRunToEndOfTime(t *testing.T) {
	set := workers(2, api.Thread{Base: 5, Period: 2, Deadline: 1, Code: code{work}}, api.Thread{Base: 4, Deadline: 1, Code: code{sleep(1)}})
	set.Start = api.MaxTime - 2
	now := api.MaxTime
	tells(t, set, []int{-1, 0, -1, 1, -1, -2, 2, 1, -1},
		api.Line{Pick: idle, Now: now - 1, Running: []int{0, 1}, Misses: []api.Miss{{Thread: 0, Job: 0, Time: now - 1}, {Thread: 1, Job: 0, Time: now - 1}}},
		api.Line{Now: now - 1, Running: []int{0, 1}},
		api.Line{Pick: idle, Now: now, Running: []int{0, 1}},
		api.Line{Pick: api.Report{Thread: 1, Code: api.Waits}, Now: now, Running: []int{0, -1}},
		api.Line{Pick: idle, Err: api.ErrClock, Now: now, Running: []int{0, -1}},
		api.Line{Err: api.ErrArg, Now: now, Running: []int{0, -1}},
		api.Line{Err: api.ErrArg, Now: now, Running: []int{0, -1}},
		api.Line{Pick: idle, Now: now, Running: []int{0, -1}},
		api.Line{Pick: idle, Err: api.ErrClock, Now: now, Running: []int{0, -1}},
	)
}

// P16: of all numbers -1 alone is a Tick; where there is no such worker nothing
// changes, and the script goes on.
func TestRunOfOddNumbers(t *testing.T) {
	set := workers(2, api.Thread{Base: 5, Code: code{work, when(0, 1)}})
	script := append([]int{0}, oddNumbers...)
	now := 0
	var want []api.Line
	for i, entry := range script {
		line := api.Line{Running: []int{0, -1}}
		switch entry {
		case -1:
			now++
			line.Pick = idle
		case 0:
			line.Pick.At = min(i, 1)
		case 1:
			line.Pick = idle
		default:
			line.Err = api.ErrArg
		}
		line.Now = now
		want = append(want, line)
	}
	tells(t, set, script, want...)
}

// P16, P1: a script that is too long is told ahead of the error of Check, and
// with an error there are no lines.
func TestRunRefuses(t *testing.T) {
	fine := workers(1, api.Thread{})
	for _, c := range []struct {
		set     api.Set
		entries int
		err     api.Errno
	}{
		{fine, 0, api.OK},
		{fine, 1, api.OK},
		{fine, 1000, api.OK},
		{fine, 1001, api.ErrLong},
		{fine, 5000, api.ErrLong},
		{api.Set{}, 1001, api.ErrLong},
		{api.Set{}, 1000, api.ErrSize},
		{api.Set{}, 0, api.ErrSize},
		{api.Set{Workers: 1, Threads: []api.Thread{{}}, Mutexes: []api.Mutex{{Kind: 2}}}, 1, api.ErrMutex},
		{counting(2, 1, fine), 1, api.ErrSem},
		{roomFor(9, fine), 1, api.ErrQueue},
		{workers(1, api.Thread{Base: 256}), 1, api.ErrThread},
		{workers(1, api.Thread{Code: code{down(0, 0)}}), 1, api.ErrCode},
		{workers(1, api.Thread{Code: code{down(0, 0)}}), 1001, api.ErrLong},
	} {
		for _, entry := range []int{0, -1, 7} {
			script := make([]int, c.entries)
			for i := range script {
				script[i] = entry
			}
			lines, err := donate.Run(c.set, script)
			if err != c.err || err == api.OK && len(lines) != c.entries || err != api.OK && lines != nil {
				t.Errorf("P16: Run of %+v with %d times %d = %d lines, %d, want %d", c.set, c.entries, entry, len(lines), err, c.err)
			}
		}
	}
	if lines, err := donate.Run(fine, nil); len(lines) != 0 || err != api.OK {
		t.Errorf("P16: Run without a script = %v, %d", lines, err)
	}
}

// P16, P2: every Run is over a new kernel, and writes into nothing that is handed
// in, nor into its spare room.
func TestRunIsNew(t *testing.T) {
	set, whole := roomySet()
	before := whole()
	script := []int{0, 0, -1, 0, 0, -1, 0, 9, 0, -1, 0, 0, 77, 77}
	first, _ := donate.Run(set, script[:12])
	second, _ := donate.Run(set, script[:12])
	if told := fmt.Sprint(first); len(first) != 12 || told != fmt.Sprint(second) {
		t.Errorf("P16: Run = %s, then %v", told, second)
	}
	if after := whole(); after != before {
		t.Errorf("P2: the set is now %s, was %s", after, before)
	}
	if fmt.Sprint(script) != "[0 0 -1 0 0 -1 0 9 0 -1 0 0 77 77]" {
		t.Errorf("P2: the script is now %v", script)
	}
}

// P2: no two lists of a Run share memory, nor do their spare rooms.
func TestLinesAreFresh(t *testing.T) {
	late := api.Thread{Period: 1, Deadline: 1}
	set := workers(3, late, late, late, late)
	script := []int{-1, 0, -1, -1, 1, 2, -1, 7}
	lines, _ := donate.Run(set, script)
	for i := range lines {
		want, _ := donate.Run(set, script)
		if fmt.Sprint(lines[i:]) != fmt.Sprint(want[i:]) {
			t.Fatalf("P2: from line %d on there is %v, want %v", i, lines[i:], want[i:])
		}
		spoil(lines[i].Misses)
		if fmt.Sprint(lines[i].Running) != fmt.Sprint(want[i].Running) {
			t.Fatalf("P2: Misses and Running share memory")
		}
		spoilNumbers(lines[i].Running)
	}
	lines = lines[:cap(lines)]
	for i := range lines {
		lines[i] = api.Line{Now: 77}
	}
	if again, _ := donate.Run(set, script); len(again) != 8 || again[7].Now != 4 {
		t.Errorf("P2: Run = %v behind the spoiling of another's lines", again)
	}
}
