package pattern

import "spotter/api"

func (r *reader) readStep() (int, bool) {
	s := Step{At: r.at, Kind: kindOf(r.peek()), Name: NoName}
	if s.Kind < 0 {
		return 0, false
	}
	r.pass()
	s.Name = nameOf(r.peek())
	if s.Name != NoName {
		r.pass()
	}
	if r.peek() == '[' {
		tests, ok := r.readTests()
		if !ok {
			return 0, false
		}
		s.Tests = tests
	}
	number := len(r.steps)
	r.steps = append(r.steps, s)
	return r.addNode(Node{Op: One, Step: number}), true
}

func (r *reader) readTests() ([]api.Test, bool) {
	var tests []api.Test
	// The '[' and each '&' are passed alike: a test stands behind them.
	for len(tests) == 0 || r.peek() == '&' {
		r.pass()
		test, ok := r.readTest()
		if !ok {
			return nil, false
		}
		tests = append(tests, test)
	}
	if r.peek() != ']' {
		return nil, false
	}
	r.pass()
	return tests, true
}

func (r *reader) readTest() (api.Test, bool) {
	left, ok := r.readTerm()
	rel := relOf(r.peek())
	if !ok || rel < 0 {
		return api.Test{}, false
	}
	r.pass()
	right, ok := r.readTerm()
	if !ok {
		return api.Test{}, false
	}
	t := api.Test{Left: left, Rel: rel, Right: right, Arith: arithOf(r.peek())}
	if t.Arith == api.Alone {
		return t, true
	}
	r.pass()
	more, ok := r.readTerm()
	t.More = more
	return t, ok
}

func (r *reader) readTerm() (api.Term, bool) {
	if digitOf(r.peek()) >= 0 {
		number, ok := r.readNumber()
		return api.Term{Of: api.OfNumber, Num: number}, ok
	}
	of := api.OfEvent
	name := nameOf(r.peek())
	if name != NoName {
		of = api.OfHeld + name
		r.pass()
	}
	field := fieldOf(r.peek())
	if field < 0 {
		return api.Term{}, false
	}
	r.pass()
	return api.Term{Of: of, Field: field}, true
}

func (r *reader) readNumber() (int, bool) {
	number := 0
	digits := 0
	for digitOf(r.peek()) >= 0 {
		if digits == api.MaxDigits {
			return 0, false
		}
		number = 10*number + digitOf(r.peek())
		digits++
		r.pass()
	}
	return number, digits > 0
}
