package donate

// none stands for a thread or a place where there is none.
const none = -1

func freeWorkers(n int) []int {
	workers := make([]int, n)
	for w := range workers {
		workers[w] = none
	}
	return workers
}

// giveOutWorkers sees to it that the awake threads that go ahead run (P5), and
// that those that go on running stay where they are (P6).
func (k *Kernel) giveOutWorkers() {
	chosen := k.awakeInOrder()
	if len(chosen) > len(k.workers) {
		chosen = chosen[:len(k.workers)]
	}
	k.freeAllBut(chosen)
	for _, t := range chosen {
		if placeOf(k.workers, t) == none {
			k.takeWorker(t)
		}
	}
}

// awakeInOrder lists the awake threads, the one that goes ahead of all first.
func (k *Kernel) awakeInOrder() []int {
	var awake []int
	for _, t := range k.tickets {
		if k.awake(t) {
			awake = append(awake, t)
		}
	}
	return k.byLevel(awake)
}

// freeAllBut takes the workers from the threads that are not chosen.
func (k *Kernel) freeAllBut(chosen []int) {
	for w, t := range k.workers {
		if placeOf(chosen, t) == none {
			k.workers[w] = none
		}
	}
}

// takeWorker puts thread t on the lowest free worker.
func (k *Kernel) takeWorker(t int) {
	w := placeOf(k.workers, none)
	if w != none {
		k.workers[w] = t
	}
}
