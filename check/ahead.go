package check

import "spotter/pattern"

// names: a set of names, a bit each.
type names int

func only(name int) names {
	if name < 0 || name >= pattern.Letters {
		return 0
	}
	return 1 << name
}

func (l names) has(name int) bool {
	return l&only(name) != 0
}

// held: the names that are held on some way, and those that are on every way.
type held struct {
	maybe, surely names
}

func (h held) and(more held) held {
	return held{maybe: h.maybe | more.maybe, surely: h.surely | more.surely}
}

func (h held) or(other held) held {
	return held{maybe: h.maybe | other.maybe, surely: h.surely & other.surely}
}

// spot: what is known of where a node stands.
type spot struct {
	ahead    held
	repeated bool
}

// addedByNodes answers for each node which names it holds itself. Rounds add
// none: a step with a name inside them is wrong, whatever stands behind it.
func addedByNodes(p pattern.Pattern) []held {
	added := make([]held, len(p.Nodes))
	for i := 0; i < len(p.Nodes); i++ {
		n := p.Nodes[i]
		switch n.Op {
		case pattern.One:
			name := only(p.Steps[n.Step].Name)
			added[i] = held{maybe: name, surely: name}
		case pattern.Then:
			added[i] = added[n.Left].and(added[n.Right])
		case pattern.Either:
			added[i] = added[n.Left].or(added[n.Right])
		}
	}
	return added
}

// spotsOfSteps answers for each step where it stands. A node comes behind its
// parts in the list: from its end on, a node's spot is known ahead of theirs.
func spotsOfSteps(p pattern.Pattern) []spot {
	added := addedByNodes(p)
	spots := make([]spot, len(p.Nodes))
	steps := make([]spot, len(p.Steps))
	for i := len(p.Nodes) - 1; i >= 0; i-- {
		n := p.Nodes[i]
		here := spots[i]
		switch n.Op {
		case pattern.One:
			steps[n.Step] = here
		case pattern.Then:
			spots[n.Left] = here
			here.ahead = here.ahead.and(added[n.Left])
			spots[n.Right] = here
		case pattern.Either:
			spots[n.Left] = here
			spots[n.Right] = here
		case pattern.Rounds:
			here.repeated = true
			spots[n.Left] = here
		}
	}
	return steps
}
