package desk

import "shotline/api"

// Accept returns a log with one more entry.
func Accept(h api.DiveDesk, log []api.DeskEntry, x api.DeskEntry) ([]api.DeskEntry, api.Errno) {
	k, _, e := keep(h, log)
	if e != api.OK {
		return nil, e
	}
	after, e := k.accept(x)
	if e != api.OK {
		return nil, e
	}
	return after.log, api.OK
}

// StateOf returns the state of a log and how many entries there are, or how many stand before the one that is refused.
func StateOf(h api.DiveDesk, log []api.DeskEntry) (api.DeskState, int, api.Errno) {
	k, number, e := keep(h, log)
	return k.DeskState, number, e
}

// Counting returns the facts that count, and their numbers.
func Counting(h api.DiveDesk, log []api.DeskEntry) ([]api.DeskEntry, []int, api.Errno) {
	k, _, e := keep(h, log)
	if e != api.OK {
		return nil, nil, e
	}
	var facts []api.DeskEntry
	var numbers []int
	for _, c := range k.facts {
		facts = append(facts, c.DeskEntry)
		numbers = append(numbers, c.number)
	}
	return facts, numbers, api.OK
}
