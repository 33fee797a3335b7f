package donate

import "donate/api"

// tickEntry stands in a script for a Tick.
const tickEntry = -1

// play tells a line for each entry of a script.
func (k *Kernel) play(script []int) []api.Line {
	lines := make([]api.Line, len(script))
	for i, entry := range script {
		line := k.playEntry(entry)
		line.Now = k.now
		line.Running = k.Running()
		lines[i] = line
	}
	return lines
}

// playEntry does what an entry says, and tells what was answered.
func (k *Kernel) playEntry(entry int) api.Line {
	if entry == tickEntry {
		missed, err := k.Tick()
		return api.Line{Pick: api.Report{Thread: none}, Err: err, Misses: missed}
	}
	report, err := k.Pick(entry)
	return api.Line{Pick: report, Err: err}
}
