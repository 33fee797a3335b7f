package check

import "donate/api"

// bounds: what an operation takes as its A and its B.
type bounds struct {
	known       bool
	lowA, highA int
	lowB, highB int
}

// firstBadInstr tells the place of the first instruction that may not be.
func firstBadInstr(set api.Set) int {
	for t, thread := range set.Threads {
		for at, instr := range thread.Code {
			allowed := boundsOf(set, len(thread.Code), instr.Op)
			if !instrFits(instr, allowed) {
				return threadStep*t + at
			}
		}
	}
	return none
}

func instrFits(instr api.Instr, allowed bounds) bool {
	if !allowed.known {
		return false
	}
	if instr.A < allowed.lowA || instr.A > allowed.highA {
		return false
	}
	return instr.B >= allowed.lowB && instr.B <= allowed.highB
}

// boundsOf tells what an operation takes in a code of the given length. Where
// a set has none of what A names, the bounds of A are empty.
func boundsOf(set api.Set, length int, op int) bounds {
	switch op {
	case api.OpEnd, api.OpWork, api.OpYield:
		return bounds{known: true}
	case api.OpWhen:
		return bounds{known: true, highA: int(api.Full), highB: length}
	case api.OpPrio:
		return bounds{known: true, highA: len(set.Threads) - 1, highB: api.MaxPrio}
	case api.OpSleep:
		return bounds{known: true, lowA: 1, highA: api.MaxWait}
	case api.OpLock:
		return bounds{known: true, highA: len(set.Mutexes) - 1, lowB: -1, highB: api.MaxWait}
	case api.OpUnlock:
		return bounds{known: true, highA: len(set.Mutexes) - 1}
	case api.OpDown:
		return bounds{known: true, highA: len(set.Sems) - 1, lowB: -1, highB: api.MaxWait}
	case api.OpUp:
		return bounds{known: true, highA: len(set.Sems) - 1}
	case api.OpSend:
		return bounds{known: true, highA: len(set.Queues) - 1, highB: api.MaxMessage}
	case api.OpRecv:
		return bounds{known: true, highA: len(set.Queues) - 1, lowB: -1, highB: api.MaxWait}
	}
	return bounds{}
}
