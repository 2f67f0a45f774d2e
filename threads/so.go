package threads

import (
	"spotter/api"
	"spotter/exact"
	"spotter/kinds"
)

// isSo tells whether a test is so for a thread that holds the event at hand at
// some places.
func (s *step) isSo(test api.Test, anew int) bool {
	left, isLeft := s.value(test.Left, anew)
	right, isRight := s.rightSide(test, anew)
	if !isLeft || !isRight {
		return false
	}
	switch test.Rel {
	case api.Below:
		return left < right
	case api.Above:
		return left > right
	case api.Same:
		return left == right
	case api.Other:
		return left != right
	}
	return false
}

// rightSide answers the number, and whether there is one.
func (s *step) rightSide(test api.Test, anew int) (int, bool) {
	right, isRight := s.value(test.Right, anew)
	more, isMore := s.value(test.More, anew)
	if !isRight || !isMore {
		return 0, false
	}
	switch test.Arith {
	case api.Alone:
		return right, true
	case api.Plus:
		return exact.Sum(right, more)
	case api.Minus:
		return exact.Difference(right, more)
	case api.Times:
		return exact.Product(right, more)
	}
	return 0, false
}

// value answers the number that a term is; there is none if its event is not held.
func (s *step) value(term api.Term, anew int) (int, bool) {
	switch term.Of {
	case api.OfNumber:
		return term.Num, true
	case api.OfEvent:
		return kinds.Value(s.hand.event, term.Field), true
	}
	e := s.heldAt(term.Of-api.OfHeld, anew)
	return kinds.Value(e.event, term.Field), e.number != nothing
}
