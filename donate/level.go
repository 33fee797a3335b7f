package donate

import "donate/api"

// level is worked out whenever it is asked for, so that it follows at once
// what it hangs on.
func (k *Kernel) level(t int) int {
	levels := k.levels()
	return levels[t]
}

// levels tells the level of every thread. What a thread is lent it lends on, so
// all of them lend as many times over as there are threads: no chain of lenders
// is longer than that.
func (k *Kernel) levels() []int {
	levels := k.ownLevels()
	for range k.threads {
		for _, t := range k.waiters {
			to := k.borrower(t)
			if to != none && levels[t] > levels[to] {
				levels[to] = levels[t]
			}
		}
	}
	return levels
}

// ownLevels tells the levels that the threads would have if none lent its own.
func (k *Kernel) ownLevels() []int {
	levels := make([]int, len(k.threads))
	for t := range k.threads {
		levels[t] = k.threads[t].base
	}
	for _, m := range k.mutexes {
		if m.owner != none && m.kind == api.Ceiling && m.top > levels[m.owner] {
			levels[m.owner] = m.top
		}
	}
	return levels
}

// byLevel lists threads by their levels, the greatest first. Those of one level
// stay in the order that they had.
func (k *Kernel) byLevel(threads []int) []int {
	levels := k.levels()
	var line []int
	for _, t := range threads {
		line = append(line, t)
		for i := len(line) - 1; i > 0 && levels[t] > levels[line[i-1]]; i-- {
			line[i] = line[i-1]
			line[i-1] = t
		}
	}
	return line
}
