package threads

import "spotter/api"

// numbered: an event and its number in the stream.
type numbered struct {
	number int
	event  api.Event
}

// nothing: what is held where no event is.
const nothing = -1

// thread: where it stands, the event that it began with, and those it holds.
// It has them with it, as the stream is not kept.
type thread struct {
	at    int
	first int
	began int // the time of the first event
	held  [api.MaxHolds]numbered
}

// newThread answers one that begins with an event and waits at a Take.
func newThread(at int, e numbered) thread {
	t := thread{at: at, first: e.number, began: e.event.At}
	for i := 0; i < len(t.held); i++ {
		t.held[i].number = nothing
	}
	return t
}

// isAhead tells the order in which matches are told; where they stand comes last.
func (t thread) isAhead(other thread) bool {
	if t.first != other.first {
		return t.first < other.first
	}
	for i := 0; i < len(t.held); i++ {
		if t.held[i].number != other.held[i].number {
			return t.held[i].number < other.held[i].number
		}
	}
	return t.at < other.at
}

func (t thread) match(last int) api.Match {
	m := api.Match{First: t.first, Last: last}
	for i := 0; i < len(t.held); i++ {
		m.Held[i] = t.held[i].number
	}
	return m
}
