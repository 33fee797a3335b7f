package donate

// none stands for a thread or a place where there is none.
const none = -1

func freeWorkers(n int) []int {
	workers := make([]int, n)
	for w := range workers {
		workers[w] = none
	}
	return workers
}

// placeOf tells the first place of an entry in a list, or none.
func placeOf(list []int, entry int) int {
	for i, found := range list {
		if found == entry {
			return i
		}
	}
	return none
}

// giveOutWorkers sees to it that the awake threads that go ahead run (P5), and
// that those that go on running stay where they are (P6).
func (k *Kernel) giveOutWorkers() {
	chosen := k.awakeInOrder()
	if len(chosen) > len(k.workers) {
		chosen = chosen[:len(k.workers)]
	}
	k.freeAllBut(chosen)
	for _, t := range chosen {
		if placeOf(k.workers, t) == none {
			k.takeWorker(t)
		}
	}
}

// awakeInOrder lists the awake threads, the one that goes ahead of all first.
func (k *Kernel) awakeInOrder() []int {
	var line []int
	for t := range k.threads {
		if !k.awake(t) {
			continue
		}
		line = append(line, t)
		for i := len(line) - 1; i > 0 && k.goesAhead(t, line[i-1]); i-- {
			line[i] = line[i-1]
			line[i-1] = t
		}
	}
	return line
}

// freeAllBut takes the workers from the threads that are not chosen.
func (k *Kernel) freeAllBut(chosen []int) {
	for w, t := range k.workers {
		if placeOf(chosen, t) == none {
			k.workers[w] = none
		}
	}
}

// takeWorker puts thread t on the lowest free worker.
func (k *Kernel) takeWorker(t int) {
	w := placeOf(k.workers, none)
	if w != none {
		k.workers[w] = t
	}
}
