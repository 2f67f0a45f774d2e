package pattern

import "spotter/api"

// reader: where it stands is never a blank. Of what it has read, every byte
// can stand in a pattern: where it fails it does not go on.
type reader struct {
	text  string
	at    int
	nodes []Node
	steps []Step
}

// Read answers the pattern that a text is and true, or false and the place of
// the first byte that cannot stand there (the text's length, if it ends too early).
func Read(text string) (Pattern, bool, int) {
	r := reader{text: text}
	r.passBlanks()
	_, ok := r.readAlt(0)
	if !ok {
		return Pattern{}, false, r.at
	}
	hasWindow := r.peek() == '@'
	window := 0
	if hasWindow {
		r.pass()
		window, ok = r.readNumber()
	}
	if !ok || r.at < len(text) {
		return Pattern{}, false, r.at
	}
	return Pattern{Nodes: r.nodes, Steps: r.steps, HasWindow: hasWindow, Window: window}, true, 0
}

func (r *reader) passBlanks() {
	for r.at < len(r.text) && r.text[r.at] == ' ' {
		r.at++
	}
}

// peek answers the byte at hand; behind the text 0, which no rule asks for.
func (r *reader) peek() byte {
	if r.at < len(r.text) {
		return r.text[r.at]
	}
	return 0
}

func (r *reader) pass() {
	r.at++
	r.passBlanks()
}

func (r *reader) addNode(n Node) int {
	r.nodes = append(r.nodes, n)
	return len(r.nodes) - 1
}

func (r *reader) readAlt(depth int) (int, bool) {
	left, ok := r.readSeq(depth)
	for ok && r.peek() == '|' {
		r.pass()
		right, fine := r.readSeq(depth)
		if !fine {
			return 0, false
		}
		left = r.addNode(Node{Op: Either, Left: left, Right: right})
	}
	return left, ok
}

func (r *reader) readSeq(depth int) (int, bool) {
	left, ok := r.readRep(depth)
	for ok && beginsAtom(r.peek()) {
		right, fine := r.readRep(depth)
		if !fine {
			return 0, false
		}
		left = r.addNode(Node{Op: Then, Left: left, Right: right})
	}
	return left, ok
}

func beginsAtom(c byte) bool {
	return c == '(' || kindOf(c) >= 0
}

func (r *reader) readRep(depth int) (int, bool) {
	body, ok := r.readAtom(depth)
	if !ok {
		return 0, false
	}
	switch r.peek() {
	case '*':
		return r.repeat(body, 0, Endless), true
	case '+':
		return r.repeat(body, 1, Endless), true
	case '?':
		return r.repeat(body, 0, 1), true
	case '{':
		return r.readCounts(body)
	}
	return body, true
}

// repeat passes the last byte of a repetition.
func (r *reader) repeat(body int, low int, high int) int {
	r.pass()
	return r.addNode(Node{Op: Rounds, Left: body, Low: low, High: high})
}

func (r *reader) readCounts(body int) (int, bool) {
	r.pass()
	low := digitOf(r.peek())
	if low < 0 {
		return 0, false
	}
	r.pass()
	high := digitOf(r.peek())
	if high < 1 || high < low {
		return 0, false
	}
	r.pass()
	if r.peek() != '}' {
		return 0, false
	}
	return r.repeat(body, low, high), true
}

func (r *reader) readAtom(depth int) (int, bool) {
	if r.peek() != '(' {
		return r.readStep()
	}
	if depth >= api.MaxDepth {
		return 0, false
	}
	r.pass()
	inner, ok := r.readAlt(depth + 1)
	if !ok || r.peek() != ')' {
		return 0, false
	}
	r.pass()
	return inner, true
}
