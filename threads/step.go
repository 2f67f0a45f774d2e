package threads

import "spotter/api"

// spot: how threads that one waiting thread becomes with an event differ: in
// where they stand, and in the places at which they hold the event, a bit each.
type spot struct {
	at, anew int
}

// step: the way of all threads from one event on to the next.
type step struct {
	code    []api.Ins
	hand    numbered // the event at hand
	from    thread   // as it waited for the event
	turn    int      // how many threads have gone on, with this one
	reached []int    // by each spot the last turn in which it was reached
	open    []spot   // those that are yet to be left
	waiting crowd
	ended   crowd
}

func newStep(code []api.Ins, lim api.Limits, e numbered) step {
	return step{
		code:    code,
		hand:    e,
		reached: make([]int, len(code)<<api.MaxHolds),
		waiting: crowd{most: lim.Live},
		ended:   crowd{most: lim.Found},
	}
}

func (s *step) isOver() bool {
	return s.waiting.over || s.ended.over
}

// goOn takes a thread that waits past its Take, if it takes the event.
func (s *step) goOn(t thread) {
	if t.at < 0 || t.at >= len(s.code) {
		return
	}
	kind := s.code[t.at].A
	if kind != api.AnyKind && kind != s.hand.event.Kind {
		return
	}
	s.from = t
	s.turn++
	s.reach(t.at+1, 0)
	for len(s.open) > 0 && !s.isOver() {
		p := s.open[len(s.open)-1]
		s.open = s.open[:len(s.open)-1]
		s.leave(p)
	}
}

// reach passes over a spot that was reached in this turn: threads that are
// alike are one, and without this there were far too many ways through Splits.
func (s *step) reach(at int, anew int) {
	mark := at<<api.MaxHolds | anew
	if mark < 0 || mark >= len(s.reached) || s.reached[mark] == s.turn {
		return
	}
	s.reached[mark] = s.turn
	s.open = append(s.open, spot{at: at, anew: anew})
}

func (s *step) leave(p spot) {
	x := s.code[p.at]
	switch x.Op {
	case api.Take:
		t := s.threadOf(p)
		s.waiting.add(t)
	case api.Span:
		if s.hand.event.At-s.from.began <= x.A {
			s.reach(p.at+1, p.anew)
		}
	case api.Only:
		if s.isSo(x.Test, p.anew) {
			s.reach(p.at+1, p.anew)
		}
	case api.Hold:
		anew := p.anew | bit(x.A)
		s.reach(p.at+1, anew)
	case api.Jump:
		s.reach(x.A, p.anew)
	case api.Split:
		s.reach(x.A, p.anew)
		s.reach(x.B, p.anew)
	case api.End:
		// A match does not tell at which End it came.
		t := s.threadOf(spot{at: 0, anew: p.anew})
		s.ended.add(t)
	}
}

func bit(place int) int {
	if place < 0 || place >= api.MaxHolds {
		return 0
	}
	return 1 << place
}

// heldAt answers what is held at a place by a thread that holds the event at
// hand at some.
func (s *step) heldAt(place int, anew int) numbered {
	if anew&bit(place) != 0 {
		return s.hand
	}
	if place < 0 || place >= len(s.from.held) {
		return numbered{number: nothing}
	}
	return s.from.held[place]
}

func (s *step) threadOf(p spot) thread {
	t := s.from
	t.at = p.at
	for i := 0; i < len(t.held); i++ {
		t.held[i] = s.heldAt(i, p.anew)
	}
	return t
}

func (s *step) matches() []api.Match {
	var list []api.Match
	for i := 0; i < len(s.ended.threads); i++ {
		m := s.ended.threads[i].match(s.hand.number)
		list = append(list, m)
	}
	return list
}
