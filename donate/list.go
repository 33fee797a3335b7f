package donate

// placeOf tells the first place of an entry in a list, or none.
func placeOf(list []int, entry int) int {
	for i, found := range list {
		if found == entry {
			return i
		}
	}
	return none
}

// without copies a list but for an entry.
func without(list []int, entry int) []int {
	var rest []int
	for _, found := range list {
		if found != entry {
			rest = append(rest, found)
		}
	}
	return rest
}

func copyOf(list []int) []int {
	fresh := make([]int, len(list))
	copy(fresh, list)
	return fresh
}
