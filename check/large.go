package check

import (
	"spotter/api"
	"spotter/pattern"
)

// isLarge tells whether a pattern is above one of the bounds of P5.
func isLarge(p pattern.Pattern) bool {
	if countNames(p.Steps) > api.MaxHolds {
		return true
	}
	for i := 0; i < len(p.Steps); i++ {
		if len(p.Steps[i].Tests) > api.MaxTests {
			return true
		}
	}
	return countPlaces(p.Nodes) > api.MaxPlaces
}

func countNames(steps []pattern.Step) int {
	count := 0
	for i := 0; i < len(steps); i++ {
		if steps[i].Name != pattern.NoName && firstNamed(steps, steps[i].Name) == i {
			count++
		}
	}
	return count
}

// countPlaces answers how many steps a pattern has, written out. No count goes
// above MaxPlaces + 1: rounds within rounds would grow beyond all bounds.
func countPlaces(nodes []pattern.Node) int {
	places := make([]int, len(nodes))
	count := 0
	for i := 0; i < len(nodes); i++ {
		n := nodes[i]
		switch n.Op {
		case pattern.One:
			count = 1
		case pattern.Then, pattern.Either:
			count = places[n.Left] + places[n.Right]
		case pattern.Rounds:
			count = places[n.Left]
			if n.High != pattern.Endless {
				count = count * n.High
			}
		}
		if count > api.MaxPlaces {
			count = api.MaxPlaces + 1
		}
		places[i] = count
	}
	// The last node is the whole pattern.
	return count
}
