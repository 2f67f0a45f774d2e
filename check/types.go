package check

import (
	"spotter/api"
	"spotter/kinds"
	"spotter/pattern"
)

// firstWrong answers the number of the first step that is not right (P4), or
// how many steps there are.
func firstWrong(s kinds.Schema, p pattern.Pattern) int {
	spots := spotsOfSteps(p)
	for i := 0; i < len(p.Steps) && i < len(spots); i++ {
		step := p.Steps[i]
		if step.Kind != api.AnyKind && !s.Has(step.Kind) {
			return i
		}
		if step.Name != pattern.NoName && !nameIsRight(p.Steps[:i], step, spots[i]) {
			return i
		}
		if !testsAreRight(s, p.Steps[:i], step, spots[i].ahead.surely) {
			return i
		}
	}
	return len(p.Steps)
}

func nameIsRight(earlier []pattern.Step, step pattern.Step, here spot) bool {
	if here.repeated || here.ahead.maybe.has(step.Name) {
		return false
	}
	// The first is enough: the steps ahead are right, so all of a name are of one kind.
	first := firstNamed(earlier, step.Name)
	return first == len(earlier) || earlier[first].Kind == step.Kind
}

// firstNamed answers the number of the first step with a name, or how many
// steps there are.
func firstNamed(steps []pattern.Step, name int) int {
	for i := 0; i < len(steps); i++ {
		if steps[i].Name == name {
			return i
		}
	}
	return len(steps)
}

func testsAreRight(s kinds.Schema, earlier []pattern.Step, step pattern.Step, surely names) bool {
	for i := 0; i < len(step.Tests); i++ {
		t := step.Tests[i]
		terms := [3]api.Term{t.Left, t.Right, t.More}
		for k := 0; k < len(terms); k++ {
			if !termIsRight(s, earlier, step.Kind, terms[k], surely) {
				return false
			}
		}
	}
	return true
}

func termIsRight(s kinds.Schema, earlier []pattern.Step, kind int, t api.Term, surely names) bool {
	if t.Of == api.OfNumber {
		return true
	}
	if t.Of == api.OfEvent {
		return s.HasField(kind, t.Field)
	}
	name := t.Of - api.OfHeld
	// What is held on every way is held on the shortest too, in the first round
	// of each repetition round the step: the name stands ahead of it in the text.
	first := firstNamed(earlier, name)
	return surely.has(name) && first < len(earlier) && s.HasField(earlier[first].Kind, t.Field)
}
