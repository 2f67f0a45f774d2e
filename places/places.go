// Package places: the places of a pattern that is written out, and which of
// them may take an event directly behind which.
package places

import "spotter/pattern"

// List: the places of a pattern. The end of a stretch counts as one more place
// behind them all, len(Steps), that follows those which can take the last event.
type List struct {
	Steps   []int // by each place the number of its step
	First   Set   // those that can take the first event
	Follows []Set // by each place those that follow it
}

// part: what some places, written out, can take.
type part struct {
	first, last Set
	nothing     bool // they can take nothing
}

type writer struct {
	nodes   []pattern.Node
	steps   []int
	follows []Set
}

// WriteOut answers the places of a pattern that has at most MaxPlaces.
func WriteOut(nodes []pattern.Node) List {
	w := writer{nodes: nodes}
	whole := w.write(len(nodes) - 1)
	w.follow(whole.last, only(len(w.steps)))
	return List{Steps: w.steps, First: whole.first, Follows: w.follows}
}

// write ends, as the parts of a node have lower numbers than the node.
func (w *writer) write(node int) part {
	if node < 0 || node >= len(w.nodes) {
		return part{nothing: true}
	}
	n := w.nodes[node]
	switch n.Op {
	case pattern.One:
		return w.writeStep(n.Step)
	case pattern.Then:
		left := w.write(n.Left)
		right := w.write(n.Right)
		return w.join(left, right)
	case pattern.Either:
		left := w.write(n.Left)
		right := w.write(n.Right)
		return part{
			first:   left.first | right.first,
			last:    left.last | right.last,
			nothing: left.nothing || right.nothing,
		}
	}
	if n.High == pattern.Endless {
		return w.writeEndless(n)
	}
	return w.writeCounted(n)
}

func (w *writer) writeStep(step int) part {
	place := only(len(w.steps))
	w.steps = append(w.steps, step)
	w.follows = append(w.follows, 0)
	return part{first: place, last: place}
}

func (w *writer) writeEndless(n pattern.Node) part {
	body := w.write(n.Left)
	w.follow(body.last, body.first)
	body.nothing = body.nothing || n.Low == 0
	return body
}

// writeCounted writes the rounds in their order, but joins them from the last
// on: each that may be left out stands inside the one ahead.
func (w *writer) writeCounted(n pattern.Node) part {
	var rounds []part
	for i := 0; i < n.High; i++ {
		round := w.write(n.Left)
		rounds = append(rounds, round)
	}
	whole := part{nothing: true}
	for i := len(rounds) - 1; i >= 0; i-- {
		whole = w.join(rounds[i], whole)
		whole.nothing = whole.nothing || i >= n.Low
	}
	return whole
}

func (w *writer) join(left part, right part) part {
	w.follow(left.last, right.first)
	both := part{first: left.first, last: right.last, nothing: left.nothing && right.nothing}
	if left.nothing {
		both.first |= right.first
	}
	if right.nothing {
		both.last |= left.last
	}
	return both
}

func (w *writer) follow(ahead Set, behind Set) {
	for i := 0; i < len(w.follows); i++ {
		if ahead.Has(i) {
			w.follows[i] |= behind
		}
	}
}
