package donate

// firstTickets: as no thread is awake yet, any order would do.
func firstTickets(threads int) []int {
	tickets := make([]int, threads)
	for t := range tickets {
		tickets[t] = t
	}
	return tickets
}

// drawTicket puts thread t behind all others. Tickets are places in a list,
// because a count of all that were ever drawn could outgrow an int.
func (k *Kernel) drawTicket(t int) {
	tickets := without(k.tickets, t)
	tickets = append(tickets, t)
	k.tickets = tickets
}
