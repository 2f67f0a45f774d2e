package compile

import (
	"spotter/api"
	"spotter/pattern"
)

// holds: by each letter the place of the name, if it is one of the pattern's.
type holds [pattern.Letters]int

func placesOfNames(steps []pattern.Step) holds {
	var h holds
	var known [pattern.Letters]bool
	count := 0
	for i := 0; i < len(steps); i++ {
		name := steps[i].Name
		if name < 0 || name >= len(h) || known[name] {
			continue
		}
		known[name] = true
		h[name] = count
		count++
	}
	return h
}

// headsOfBlocks answers for each place its block without the chain.
func headsOfBlocks(p pattern.Pattern, stepsOfPlaces []int) [][]api.Ins {
	h := placesOfNames(p.Steps)
	var heads [][]api.Ins
	for i := 0; i < len(stepsOfPlaces); i++ {
		head := h.headOfBlock(p, p.Steps[stepsOfPlaces[i]])
		heads = append(heads, head)
	}
	return heads
}

func (h holds) headOfBlock(p pattern.Pattern, step pattern.Step) []api.Ins {
	head := []api.Ins{{Op: api.Take, A: step.Kind}}
	if p.HasWindow {
		head = append(head, api.Ins{Op: api.Span, A: p.Window})
	}
	for i := 0; i < len(step.Tests); i++ {
		test := h.placed(step.Tests[i])
		head = append(head, api.Ins{Op: api.Only, Test: test})
	}
	if step.Name >= 0 && step.Name < len(h) {
		head = append(head, api.Ins{Op: api.Hold, A: h[step.Name]})
	}
	return head
}

// placed answers a test of a step with places for the letters of names.
func (h holds) placed(t api.Test) api.Test {
	t.Left = h.placedTerm(t.Left)
	t.Right = h.placedTerm(t.Right)
	t.More = h.placedTerm(t.More)
	return t
}

func (h holds) placedTerm(t api.Term) api.Term {
	letter := t.Of - api.OfHeld
	if letter >= 0 && letter < len(h) {
		t.Of = api.OfHeld + h[letter]
	}
	return t
}
